import Derived.Test.YtokaeiahhmaokaaGreatDoorV1
import Derived.Test.YtokaeiahhmaokaaGreatDoorV21
namespace Go.Proofs.YtokaeiahhmaokaaGreatDoor.ds
open Go.ChangeShapes Go.WideShapes Go.ChangeAt Go.RowKit Go.Sort
set_option linter.unusedVariables false
set_option linter.unusedSimpArgs false
def markW : Wr := ⟨77, 77, ⟨#[109, 97, 114, 107]⟩, false, [], []⟩
theorem mark_reads (w : World) : Reads w markE markW := ⟨rfl, rfl, rfl, rfl, Rd.nil _ _, rfl, by decide, by simp [markW], ⟨Sp.nil _ _, rfl, by decide, by simp [markW]⟩, by decide, fun _ => ⟨rfl, rfl⟩, fun _ => ⟨rfl, rfl⟩⟩
/-- what back leaves -/
structure BackPost (lo hi : Nat) (w w' : World) (r : Ending) (LB G c : Nat) (vv xx : Sl) (N : Nat) : Prop where
  r : r = .returned (.bool true)
  fr : Fr lo hi w w'
  blk : w'.heap[LB]? = some (.cells #[.slice (some ⟨G, 0, none⟩) (N + 2) c, vv.v, xx.v] 62 (0, 0))
  list : w'.ownsRow 0 28 6 (.slice (some ⟨G, 0, none⟩) (N + 2) c) (N + 2) (flatE (List.replicate (N + 2) markE))
set_option maxHeartbeats 8000000 in
set_option maxRecDepth 100000 in
theorem back_ok (lo hi : Nat) (w : World) (LB G c : Nat) (vv xx : Sl) (fs : List E) (vs xs : List Sl) (rs : List Wr) (N : Nat) (h : Lt lo hi w LB G c vv xx fs vs xs rs N) (hN : N ≤ 1100000) (p : Option Addr) (cap : Nat) (es : List E) (hL : LE w p N es) (hR : ∀ j, j < N → Reads w (gE es j) (gR rs j)) :
    Calls Tryz.prog 14 #[.pointer (some ⟨LB, 0, none⟩), .slice p N cap] w fun r w' => BackPost lo hi w w' r LB G c vv xx N := by
  have HH := hid h
  have HC := hid h.cap
  have g1 := flatE_get (fs ++ [markE, markE]) N (by simp [h.fl])
  have g2 := flatE_get (fs ++ [markE, markE]) (N + 1) (by simp [h.fl])
  have e1 : gE (fs ++ [markE, markE]) N = markE := by unfold gE; simp [List.getD_eq_getElem?_getD, ← h.fl]
  have e2 : gE (fs ++ [markE, markE]) (N + 1) = markE := by unfold gE; simp [List.getD_eq_getElem?_getD, ← h.fl]
  rw [e1] at g1
  rw [e2] at g2
  have hW : ∀ W : World, Apart [] w W → W.cell? ⟨LB, 0, none⟩ = some (.slice (some ⟨G, 0, none⟩) (N + 2) c) ∧
      W.cell? ⟨G, N * 6, none⟩ = some (.int .i64 77) ∧ W.cell? ⟨G, N * 6 + 1, none⟩ = some (.int .i64 77) ∧ W.cell? ⟨G, N * 6 + 2, none⟩ = some (.string ⟨#[109, 97, 114, 107]⟩) ∧ W.cell? ⟨G, N * 6 + 3, none⟩ = some (.bool false) ∧ W.cell? ⟨G, N * 6 + 4, none⟩ = some (.slice none 0 0) ∧ W.cell? ⟨G, N * 6 + 5, none⟩ = some (.slice none 0 0) ∧
      W.cell? ⟨G, (N + 1) * 6, none⟩ = some (.int .i64 77) ∧ W.cell? ⟨G, (N + 1) * 6 + 1, none⟩ = some (.int .i64 77) ∧ W.cell? ⟨G, (N + 1) * 6 + 2, none⟩ = some (.string ⟨#[109, 97, 114, 107]⟩) ∧ W.cell? ⟨G, (N + 1) * 6 + 3, none⟩ = some (.bool false) ∧ W.cell? ⟨G, (N + 1) * 6 + 4, none⟩ = some (.slice none 0 0) ∧ W.cell? ⟨G, (N + 1) * 6 + 5, none⟩ = some (.slice none 0 0) := fun W a => by
    have k := HH.out.kept0 a
    have l := k.list
    refine ⟨by rw [cell_of_row _ _ _ _ _ _ k.blk]; rfl, (l.cellAt _ (by omega)).trans g1.1, (l.cellAt _ (by omega)).trans g1.2.1, (l.cellAt _ (by omega)).trans g1.2.2.1, (l.cellAt _ (by omega)).trans g1.2.2.2.1, (l.cellAt _ (by omega)).trans g1.2.2.2.2.1, (l.cellAt _ (by omega)).trans g1.2.2.2.2.2, (l.cellAt _ (by omega)).trans g2.1, (l.cellAt _ (by omega)).trans g2.2.1, (l.cellAt _ (by omega)).trans g2.2.2.1, (l.cellAt _ (by omega)).trans g2.2.2.2.1, (l.cellAt _ (by omega)).trans g2.2.2.2.2.1, (l.cellAt _ (by omega)).trans g2.2.2.2.2.2⟩
  have HW := hid hW
  have hM := mark_ok
  have hS := fun W => same_yes markE markE markW W (mark_reads W) (mark_reads W)
  have HSL : Hid (∀ W : World, Apart [] w W → Calls Tryz.prog 16 #[.slice (some ⟨G, 0, none⟩) N c, .slice p N cap] W fun r w' => r = .returned (.bool true) ∧ Apart [] W w') := fun W a => sameList_yes W (some ⟨G, 0, none⟩) p N c cap fs es rs ((HH.out.kept0 a).LE (by omega)) (hL.kept0 a) (fun j hj => ((HH.out.kept0 a).one j hj).reads) (fun j hj => (hR j hj).kept0 a)
  have hnc : (N : Int) ≤ (c : Int) := by have := HC.out; omega
  unfold markE E.agg Sl.v at hM hS
  clear g1 g2 e1 e2 hW h hL hR
  go_enter Tryz.func14, Tryz.ntmps14
  go_upto_region 2 with fail
  refine wp_region_held_drew (S := fun X => Apart [] w X) (by kernel_rfl) (Apart.refl [] w).drew (fun hHeld => ?_)
  have aS : Apart [] w w.drew := (Apart.refl [] w).drew
  refine tk 0 16 (.pointer (some ⟨LB, 0, none⟩)) rfl ?_ ?_
  · intro W hSW; obtain ⟨hl0, ha0, ha1, ha2, ha3, ha4, ha5, hb0, hb1, hb2, hb3, hb4, hb5⟩ := HW.out W hSW; go_simp
  simp only [Act.put, List.setIfInBounds_toArray, List.set_cons_zero, List.set_cons_succ]
  refine tk 1 17 (.pointer (some ⟨LB, 0, none⟩)) rfl ?_ ?_
  · intro W hSW; obtain ⟨hl0, ha0, ha1, ha2, ha3, ha4, ha5, hb0, hb1, hb2, hb3, hb4, hb5⟩ := HW.out W hSW; go_simp
  simp only [Act.put, List.setIfInBounds_toArray, List.set_cons_zero, List.set_cons_succ]
  refine tk 2 18 (.pointer (some ⟨LB, 0, none⟩)) rfl ?_ ?_
  · intro W hSW; obtain ⟨hl0, ha0, ha1, ha2, ha3, ha4, ha5, hb0, hb1, hb2, hb3, hb4, hb5⟩ := HW.out W hSW; go_simp
  simp only [Act.put, List.setIfInBounds_toArray, List.set_cons_zero, List.set_cons_succ]
  refine tk 3 19 (.slice (some ⟨G, 0, none⟩) (N + 2) c) rfl ?_ ?_
  · intro W hSW; obtain ⟨hl0, ha0, ha1, ha2, ha3, ha4, ha5, hb0, hb1, hb2, hb3, hb4, hb5⟩ := HW.out W hSW; go_simp
  simp only [Act.put, List.setIfInBounds_toArray, List.set_cons_zero, List.set_cons_succ]
  refine tk 4 20 (.int .i64 ((N : Int) + 2)) rfl ?_ ?_
  · intro W hSW; obtain ⟨hl0, ha0, ha1, ha2, ha3, ha4, ha5, hb0, hb1, hb2, hb3, hb4, hb5⟩ := HW.out W hSW; go_simp
  simp only [Act.put, List.setIfInBounds_toArray, List.set_cons_zero, List.set_cons_succ]
  refine tk 5 21 (.int .i64 (N : Int)) rfl ?_ ?_
  · intro W hSW; obtain ⟨hl0, ha0, ha1, ha2, ha3, ha4, ha5, hb0, hb1, hb2, hb3, hb4, hb5⟩ := HW.out W hSW; go_simp
  simp only [Act.put, List.setIfInBounds_toArray, List.set_cons_zero, List.set_cons_succ]
  refine tk 6 22 (.int .i64 ((N : Int) + 2)) rfl ?_ ?_
  · intro W hSW; obtain ⟨hl0, ha0, ha1, ha2, ha3, ha4, ha5, hb0, hb1, hb2, hb3, hb4, hb5⟩ := HW.out W hSW; go_simp <;> (first | (rw [IntKind.wrap_i64]; omega) | (intro hq; exfalso; omega))
  simp only [Act.put, List.setIfInBounds_toArray, List.set_cons_zero, List.set_cons_succ]
  refine tk 7 23 (.bool true) rfl ?_ ?_
  · intro W hSW; obtain ⟨hl0, ha0, ha1, ha2, ha3, ha4, ha5, hb0, hb1, hb2, hb3, hb4, hb5⟩ := HW.out W hSW; go_simp
  simp only [Act.put, List.setIfInBounds_toArray, List.set_cons_zero, List.set_cons_succ]
  refine tk 8 24 (.bool true) rfl ?_ ?_
  · intro W hSW; obtain ⟨hl0, ha0, ha1, ha2, ha3, ha4, ha5, hb0, hb1, hb2, hb3, hb4, hb5⟩ := HW.out W hSW; go_simp
  simp only [Act.put, List.setIfInBounds_toArray, List.set_cons_zero, List.set_cons_succ]
  refine tk 9 25 (.pointer (some ⟨LB, 0, none⟩)) rfl ?_ ?_
  · intro W hSW; obtain ⟨hl0, ha0, ha1, ha2, ha3, ha4, ha5, hb0, hb1, hb2, hb3, hb4, hb5⟩ := HW.out W hSW; go_simp
  simp only [Act.put, List.setIfInBounds_toArray, List.set_cons_zero, List.set_cons_succ]
  refine tk 10 26 (.pointer (some ⟨LB, 0, none⟩)) rfl ?_ ?_
  · intro W hSW; obtain ⟨hl0, ha0, ha1, ha2, ha3, ha4, ha5, hb0, hb1, hb2, hb3, hb4, hb5⟩ := HW.out W hSW; go_simp
  simp only [Act.put, List.setIfInBounds_toArray, List.set_cons_zero, List.set_cons_succ]
  refine tk 11 27 (.pointer (some ⟨LB, 0, none⟩)) rfl ?_ ?_
  · intro W hSW; obtain ⟨hl0, ha0, ha1, ha2, ha3, ha4, ha5, hb0, hb1, hb2, hb3, hb4, hb5⟩ := HW.out W hSW; go_simp
  simp only [Act.put, List.setIfInBounds_toArray, List.set_cons_zero, List.set_cons_succ]
  refine tk 12 28 (.slice (some ⟨G, 0, none⟩) (N + 2) c) rfl ?_ ?_
  · intro W hSW; obtain ⟨hl0, ha0, ha1, ha2, ha3, ha4, ha5, hb0, hb1, hb2, hb3, hb4, hb5⟩ := HW.out W hSW; go_simp
  simp only [Act.put, List.setIfInBounds_toArray, List.set_cons_zero, List.set_cons_succ]
  refine tk 13 29 (.int .i64 (N : Int)) rfl ?_ ?_
  · intro W hSW; obtain ⟨hl0, ha0, ha1, ha2, ha3, ha4, ha5, hb0, hb1, hb2, hb3, hb4, hb5⟩ := HW.out W hSW; go_simp
  simp only [Act.put, List.setIfInBounds_toArray, List.set_cons_zero, List.set_cons_succ]
  refine tk 14 30 (.pointer (some ⟨G, N * 6, none⟩)) rfl ?_ ?_
  · intro W hSW; obtain ⟨hl0, ha0, ha1, ha2, ha3, ha4, ha5, hb0, hb1, hb2, hb3, hb4, hb5⟩ := HW.out W hSW; go_simp <;> (first | (rw [IntKind.wrap_i64]; omega) | (intro hq; exfalso; omega))
  simp only [Act.put, List.setIfInBounds_toArray, List.set_cons_zero, List.set_cons_succ]
  refine tk 15 31 (.agg #[.int .i64 77, .int .i64 77, .string ⟨#[109, 97, 114, 107]⟩, .bool false, .slice none 0 0, .slice none 0 0]) rfl ?_ ?_
  · intro W hSW; obtain ⟨hl0, ha0, ha1, ha2, ha3, ha4, ha5, hb0, hb1, hb2, hb3, hb4, hb5⟩ := HW.out W hSW; go_simp
  simp only [Act.put, List.setIfInBounds_toArray, List.set_cons_zero, List.set_cons_succ]
  refine wpAnyH_ready (rs := [16]) (by kernel_rfl) (by simp) ?_
  refine AllReadyH.cons rfl (fun KK hKK => ?_) AllReadyH.nil
  go_simp
  refine (hM _).mono ?_
  rintro _ W1 ⟨rfl, a1⟩
  have aT := aS.trans a1
  clear aS
  have aS := aT
  clear aT a1
  dsimp only
  refine hKK.out _ _ aS (fun hHeld => ?_)
  clear hKK KK
  refine wpAnyH_ready (rs := [17]) (by kernel_rfl) (by simp) ?_
  refine AllReadyH.cons rfl (fun KK hKK => ?_) AllReadyH.nil
  go_simp
  refine (hS _).mono ?_
  rintro _ W1 ⟨rfl, a1⟩
  have aT := aS.trans a1
  clear aS
  have aS := aT
  clear aT a1
  dsimp only
  refine hKK.out _ _ aS (fun hHeld => ?_)
  clear hKK KK
  refine tk 18 34 (.bool true) rfl ?_ ?_
  · intro W hSW; obtain ⟨hl0, ha0, ha1, ha2, ha3, ha4, ha5, hb0, hb1, hb2, hb3, hb4, hb5⟩ := HW.out W hSW; go_simp
  simp only [Act.put, List.setIfInBounds_toArray, List.set_cons_zero, List.set_cons_succ]
  refine tk 19 35 (.bool true) rfl ?_ ?_
  · intro W hSW; obtain ⟨hl0, ha0, ha1, ha2, ha3, ha4, ha5, hb0, hb1, hb2, hb3, hb4, hb5⟩ := HW.out W hSW; go_simp
  simp only [Act.put, List.setIfInBounds_toArray, List.set_cons_zero, List.set_cons_succ]
  refine tk 20 36 (.pointer (some ⟨LB, 0, none⟩)) rfl ?_ ?_
  · intro W hSW; obtain ⟨hl0, ha0, ha1, ha2, ha3, ha4, ha5, hb0, hb1, hb2, hb3, hb4, hb5⟩ := HW.out W hSW; go_simp
  simp only [Act.put, List.setIfInBounds_toArray, List.set_cons_zero, List.set_cons_succ]
  refine tk 21 37 (.pointer (some ⟨LB, 0, none⟩)) rfl ?_ ?_
  · intro W hSW; obtain ⟨hl0, ha0, ha1, ha2, ha3, ha4, ha5, hb0, hb1, hb2, hb3, hb4, hb5⟩ := HW.out W hSW; go_simp
  simp only [Act.put, List.setIfInBounds_toArray, List.set_cons_zero, List.set_cons_succ]
  refine tk 22 38 (.pointer (some ⟨LB, 0, none⟩)) rfl ?_ ?_
  · intro W hSW; obtain ⟨hl0, ha0, ha1, ha2, ha3, ha4, ha5, hb0, hb1, hb2, hb3, hb4, hb5⟩ := HW.out W hSW; go_simp
  simp only [Act.put, List.setIfInBounds_toArray, List.set_cons_zero, List.set_cons_succ]
  refine tk 23 39 (.slice (some ⟨G, 0, none⟩) (N + 2) c) rfl ?_ ?_
  · intro W hSW; obtain ⟨hl0, ha0, ha1, ha2, ha3, ha4, ha5, hb0, hb1, hb2, hb3, hb4, hb5⟩ := HW.out W hSW; go_simp
  simp only [Act.put, List.setIfInBounds_toArray, List.set_cons_zero, List.set_cons_succ]
  refine tk 24 40 (.int .i64 (N : Int)) rfl ?_ ?_
  · intro W hSW; obtain ⟨hl0, ha0, ha1, ha2, ha3, ha4, ha5, hb0, hb1, hb2, hb3, hb4, hb5⟩ := HW.out W hSW; go_simp
  simp only [Act.put, List.setIfInBounds_toArray, List.set_cons_zero, List.set_cons_succ]
  refine tk 25 41 (.int .i64 ((N : Int) + 1)) rfl ?_ ?_
  · intro W hSW; obtain ⟨hl0, ha0, ha1, ha2, ha3, ha4, ha5, hb0, hb1, hb2, hb3, hb4, hb5⟩ := HW.out W hSW; go_simp <;> (first | (rw [IntKind.wrap_i64]; omega) | (intro hq; exfalso; omega))
  simp only [Act.put, List.setIfInBounds_toArray, List.set_cons_zero, List.set_cons_succ]
  refine tk 26 42 (.pointer (some ⟨G, (N + 1) * 6, none⟩)) rfl ?_ ?_
  · intro W hSW; obtain ⟨hl0, ha0, ha1, ha2, ha3, ha4, ha5, hb0, hb1, hb2, hb3, hb4, hb5⟩ := HW.out W hSW; go_simp <;> (first | (rw [IntKind.wrap_i64]; omega) | (intro hq; exfalso; omega))
  simp only [Act.put, List.setIfInBounds_toArray, List.set_cons_zero, List.set_cons_succ]
  refine tk 27 43 (.agg #[.int .i64 77, .int .i64 77, .string ⟨#[109, 97, 114, 107]⟩, .bool false, .slice none 0 0, .slice none 0 0]) rfl ?_ ?_
  · intro W hSW; obtain ⟨hl0, ha0, ha1, ha2, ha3, ha4, ha5, hb0, hb1, hb2, hb3, hb4, hb5⟩ := HW.out W hSW; go_simp
  simp only [Act.put, List.setIfInBounds_toArray, List.set_cons_zero, List.set_cons_succ]
  refine wpAnyH_ready (rs := [28]) (by kernel_rfl) (by simp) ?_
  refine AllReadyH.cons rfl (fun KK hKK => ?_) AllReadyH.nil
  go_simp
  refine (hM _).mono ?_
  rintro _ W1 ⟨rfl, a1⟩
  have aT := aS.trans a1
  clear aS
  have aS := aT
  clear aT a1
  dsimp only
  refine hKK.out _ _ aS (fun hHeld => ?_)
  clear hKK KK
  refine wpAnyH_ready (rs := [29]) (by kernel_rfl) (by simp) ?_
  refine AllReadyH.cons rfl (fun KK hKK => ?_) AllReadyH.nil
  go_simp
  refine (hS _).mono ?_
  rintro _ W1 ⟨rfl, a1⟩
  have aT := aS.trans a1
  clear aS
  have aS := aT
  clear aT a1
  dsimp only
  refine hKK.out _ _ aS (fun hHeld => ?_)
  clear hKK KK
  refine tk 30 46 (.bool true) rfl ?_ ?_
  · intro W hSW; obtain ⟨hl0, ha0, ha1, ha2, ha3, ha4, ha5, hb0, hb1, hb2, hb3, hb4, hb5⟩ := HW.out W hSW; go_simp
  simp only [Act.put, List.setIfInBounds_toArray, List.set_cons_zero, List.set_cons_succ]
  refine tk 31 47 (.bool true) rfl ?_ ?_
  · intro W hSW; obtain ⟨hl0, ha0, ha1, ha2, ha3, ha4, ha5, hb0, hb1, hb2, hb3, hb4, hb5⟩ := HW.out W hSW; go_simp
  simp only [Act.put, List.setIfInBounds_toArray, List.set_cons_zero, List.set_cons_succ]
  refine tk 32 48 (.pointer (some ⟨LB, 0, none⟩)) rfl ?_ ?_
  · intro W hSW; obtain ⟨hl0, ha0, ha1, ha2, ha3, ha4, ha5, hb0, hb1, hb2, hb3, hb4, hb5⟩ := HW.out W hSW; go_simp
  simp only [Act.put, List.setIfInBounds_toArray, List.set_cons_zero, List.set_cons_succ]
  refine tk 33 49 (.pointer (some ⟨LB, 0, none⟩)) rfl ?_ ?_
  · intro W hSW; obtain ⟨hl0, ha0, ha1, ha2, ha3, ha4, ha5, hb0, hb1, hb2, hb3, hb4, hb5⟩ := HW.out W hSW; go_simp
  simp only [Act.put, List.setIfInBounds_toArray, List.set_cons_zero, List.set_cons_succ]
  refine tk 34 50 (.pointer (some ⟨LB, 0, none⟩)) rfl ?_ ?_
  · intro W hSW; obtain ⟨hl0, ha0, ha1, ha2, ha3, ha4, ha5, hb0, hb1, hb2, hb3, hb4, hb5⟩ := HW.out W hSW; go_simp
  simp only [Act.put, List.setIfInBounds_toArray, List.set_cons_zero, List.set_cons_succ]
  refine tk 35 51 (.slice (some ⟨G, 0, none⟩) (N + 2) c) rfl ?_ ?_
  · intro W hSW; obtain ⟨hl0, ha0, ha1, ha2, ha3, ha4, ha5, hb0, hb1, hb2, hb3, hb4, hb5⟩ := HW.out W hSW; go_simp
  simp only [Act.put, List.setIfInBounds_toArray, List.set_cons_zero, List.set_cons_succ]
  refine tk 36 52 (.int .i64 (N : Int)) rfl ?_ ?_
  · intro W hSW; obtain ⟨hl0, ha0, ha1, ha2, ha3, ha4, ha5, hb0, hb1, hb2, hb3, hb4, hb5⟩ := HW.out W hSW; go_simp
  simp only [Act.put, List.setIfInBounds_toArray, List.set_cons_zero, List.set_cons_succ]
  refine tk 37 53 (.slice (some ⟨G, 0, none⟩) N c) rfl ?_ ?_
  · intro W hSW; obtain ⟨hl0, ha0, ha1, ha2, ha3, ha4, ha5, hb0, hb1, hb2, hb3, hb4, hb5⟩ := HW.out W hSW; go_simp
  simp only [Act.put, List.setIfInBounds_toArray, List.set_cons_zero, List.set_cons_succ]
  refine tk 38 54 (.slice p N cap) rfl ?_ ?_
  · intro W hSW; obtain ⟨hl0, ha0, ha1, ha2, ha3, ha4, ha5, hb0, hb1, hb2, hb3, hb4, hb5⟩ := HW.out W hSW; go_simp
  simp only [Act.put, List.setIfInBounds_toArray, List.set_cons_zero, List.set_cons_succ]
  refine wpAnyH_ready (rs := [39]) (by kernel_rfl) (by simp) ?_
  refine AllReadyH.cons rfl (fun KK hKK => ?_) AllReadyH.nil
  go_simp
  refine (HSL.out _ aS).mono ?_
  rintro _ W1 ⟨rfl, a1⟩
  have aT := aS.trans a1
  clear aS
  have aS := aT
  clear aT a1
  dsimp only
  refine hKK.out _ _ aS (fun hHeld => ?_)
  clear hKK KK
  refine tk 40 56 (.bool true) rfl ?_ ?_
  · intro W hSW; obtain ⟨hl0, ha0, ha1, ha2, ha3, ha4, ha5, hb0, hb1, hb2, hb3, hb4, hb5⟩ := HW.out W hSW; go_simp
  simp only [Act.put, List.setIfInBounds_toArray, List.set_cons_zero, List.set_cons_succ]
  refine tk 41 6 (.bool true) rfl ?_ ?_
  · intro W hSW; obtain ⟨hl0, ha0, ha1, ha2, ha3, ha4, ha5, hb0, hb1, hb2, hb3, hb4, hb5⟩ := HW.out W hSW; go_simp
  simp only [Act.put, List.setIfInBounds_toArray, List.set_cons_zero, List.set_cons_succ]
  refine wpAnyH_done (by kernel_rfl) ?_ _
  have HAS := hid aS
  clear aS hHeld hS HSL HW
  go_wp2_with fail
  go_loopw [6, 7] (fun v6 v7 wr => ∃ i : Nat, v7 = .int .i64 (i : Nat) ∧ i ≤ N ∧ v6 = .bool true ∧ Bk lo hi w wr LB G c vv xx fs vs xs rs N i) (fun _ v7 _ => N - (intOf v7).toNat)
  case atStart => exact ⟨0, rfl, Nat.zero_le _, rfl, Bk.start HH.out HAS.out⟩
  case round =>
    clear HAS
    obtain ⟨i, rfl, hi, rfl, bk⟩ := hrel
    generalize wr = wz at *
    have HB := hid bk
    clear bk
    by_cases hlt : i < N
    · obtain ⟨VB, hVB⟩ : ∃ VB, vv.p = some ⟨VB, 0, none⟩ := by
        obtain ⟨_, ⟨hv, hz⟩ | ⟨g, cp, cur, hv, _⟩⟩ := HB.out.vals
        · have := HH.out.vvn; omega
        · unfold Sl.v at hv; simp at hv; exact ⟨g, hv.1⟩
      obtain ⟨XB, hXB⟩ : ∃ XB, xx.p = some ⟨XB, 0, none⟩ := by
        obtain ⟨_, ⟨hv, hz⟩ | ⟨g, cp, cur, hv, _⟩⟩ := HB.out.ctxs
        · have := HH.out.xxn; omega
        · unfold Sl.v at hv; simp at hv; exact ⟨g, hv.1⟩
      have hvn := HH.out.vvn
      have hxn := HH.out.xxn
      have l1 : wz.cell? ⟨LB, 1, none⟩ = some (.slice (some ⟨VB, 0, none⟩) N vv.c) := by rw [cell_of_row _ _ _ _ _ _ HB.out.blk]; show some vv.v = _; unfold Sl.v; rw [hVB, hvn]
      have l2 : wz.cell? ⟨LB, 2, none⟩ = some (.slice (some ⟨XB, 0, none⟩) N xx.c) := by rw [cell_of_row _ _ _ _ _ _ HB.out.blk]; show some xx.v = _; unfold Sl.v; rw [hXB, hxn]
      have o := HB.out.one i (Nat.le_refl _) hlt
      obtain ⟨kv, hkv⟩ := o.vp
      obtain ⟨kx, hkx⟩ := o.xp
      have oV := HB.out.vals
      have oX := HB.out.ctxs
      rw [show vv.v = .slice (some ⟨VB, 0, none⟩) N vv.c from by unfold Sl.v; rw [hVB, hvn], hvn] at oV
      rw [show xx.v = .slice (some ⟨XB, 0, none⟩) N xx.c from by unfold Sl.v; rw [hXB, hxn], hxn] at oX
      have v1 : wz.cell? ⟨VB, i, none⟩ = some (.slice (some ⟨kv, 0, none⟩) ((gR rs i).vs.length + 2) (gS vs i).c) := by
        refine (oV.cellAt i (by omega)).trans ?_
        rw [gmap vs i (by rw [HH.out.vl]; exact hlt)]
        unfold Sl.v; rw [hkv, o.vn]
      have v2 : wz.cell? ⟨XB, i, none⟩ = some (.slice (some ⟨kx, 0, none⟩) ((gR rs i).xs.length + 2) (gS xs i).c) := by
        refine (oX.cellAt i (by omega)).trans ?_
        rw [gmap xs i (by rw [HH.out.xl]; exact hlt)]
        unfold Sl.v; rw [hkx, o.xn]
      have ow := o.vo
      have ox := o.xo
      unfold Sl.v at ow ox
      rw [hkv, o.vn] at ow
      rw [hkx, o.xn] at ox
      have hbl : (byts (gR rs i).vs).length = (gR rs i).vs.length := by simp [byts]
      have hfl := flat_length (gR rs i).xs
      have m1 : wz.cell? ⟨kv, (gR rs i).vs.length, none⟩ = some (.int .u8 7) := by
        refine (ow.cellAt _ (by omega)).trans ?_
        rw [List.getElem?_append_right (by omega), hbl, Nat.sub_self]; rfl
      have m2 : wz.cell? ⟨kv, (gR rs i).vs.length + 1, none⟩ = some (.int .u8 8) := by
        refine (ow.cellAt _ (by omega)).trans ?_
        rw [List.getElem?_append_right (by omega), hbl, show (gR rs i).vs.length + 1 - (gR rs i).vs.length = 1 from by omega]; rfl
      have m3 : wz.cell? ⟨kx, (gR rs i).xs.length * 3, none⟩ = some (.int .i64 77) := by
        refine (ox.cellAt _ (by omega)).trans ?_
        rw [List.getElem?_append_right (by omega), hfl, Nat.sub_self]; rfl
      have m4 : wz.cell? ⟨kx, ((gR rs i).xs.length + 1) * 3, none⟩ = some (.int .i64 78) := by
        refine (ox.cellAt _ (by omega)).trans ?_
        rw [List.getElem?_append_right (by omega), hfl, show ((gR rs i).xs.length + 1) * 3 - (gR rs i).xs.length * 3 = 3 from by omega]; rfl
      have hvl := o.vl
      have hxl := o.xl
      have HKV : Hid ((gS vs i).v.ownBlock = some kv) := by show _ = _; unfold Sl.v; rw [hkv]; rfl
      have HKX : Hid ((gS xs i).v.ownBlock = some kx) := by show _ = _; unfold Sl.v; rw [hkx]; rfl
      have HOW := hid ow
      have HOX := hid ox
      have hkne : kv ≠ kx := fun e => by
        obtain ⟨c1, t1⟩ := own_typ ow (k := kv) rfl
        obtain ⟨c2, t2⟩ := own_typ ox (k := kx) rfl
        rw [e, t2] at t1; simp at t1
      have HKN := hid hkne
      generalize (gR rs i).vs.length = M at *
      generalize (gR rs i).xs.length = X at *
      generalize (gS vs i).c = cv at *
      generalize (gS xs i).c = cx at *
      clear hVB hXB hvn hxn oV oX ow ox o hkv hkx hbl hfl hkne
      have t1 : ((M : Int) + 2) - 2 = (M : Int) := by omega
      have t2 : ((M : Int) + 2) - 1 = (M : Int) + 1 := by omega
      have t3 : ((X : Int) + 2) - 2 = (X : Int) := by omega
      have t4 : ((X : Int) + 2) - 1 = (X : Int) + 1 := by omega
      go_wp2_with fail
      go_loopw [12] (fun v wx => ∃ j : Nat, v = .int .i64 (j : Nat) ∧ j ≤ M + 2 ∧ Apart [kv] wz wx ∧ ∃ us, wx.ownsRow 0 5 1 (.slice (some ⟨kv, 0, none⟩) (M + 2) cv) (M + 2) us) (fun v _ => M + 2 - (intOf v).toNat)
      case atStart => exact ⟨0, rfl, Nat.zero_le _, Apart.refl _ _, _, HOW.out⟩
      case round =>
        obtain ⟨j, rfl, hj, aV, us, oU⟩ := hrel
        have HAV := hid aV
        have HOU := hid oU
        clear aV oU
        by_cases hjl : j < M + 2
        · have hul : us.length = M + 2 := by have := HOU.out.1; omega
          have q1 := (HOU.out.cellAt j (by omega)).trans (List.getElem?_eq_getElem (by omega))
          have q2 := HOU.out.frozenAt j
          generalize us[j] = uj at *
          clear hul l1 l2 v1 v2 m1 m2 m3 m4
          go_wp2
          go_roundw
          case rel => exact ⟨j + 1, by go_num, by omega, HAV.out.setCell (.inl (by simp)) _, _, (HOU.out.stored j _).1⟩
          case measure => simp [intOf]; omega
        · obtain rfl : j = M + 2 := by omega
          clear m1 m2 m3 m4 l1 l2 v1 v2
          have oX0 := own_apart HOX.out HAV.out (fun k hk hm => by simp [Value.ownBlock] at hk; simp at hm; exact HKN.out (hm.symm.trans hk.symm))
          have HOX0 := hid oX0
          clear oX0
          go_wp2_with fail
          go_loopw [13] (fun v wy => ∃ j : Nat, v = .int .i64 (j : Nat) ∧ j ≤ X + 2 ∧ Apart [kv, kx] wz wy ∧ ∃ us, wy.ownsRow 0 47 3 (.slice (some ⟨kx, 0, none⟩) (X + 2) cx) (X + 2) us) (fun v _ => X + 2 - (intOf v).toNat)
          case atStart => exact ⟨0, rfl, Nat.zero_le _, HAV.out.mono (Y := [kv, kx]) (by simp), _, HOX0.out⟩
          case round =>
            clear HOX0 HOU HAV
            obtain ⟨j, rfl, hj, aV, us, oU⟩ := hrel
            have HAV := hid aV
            have HOU := hid oU
            clear aV oU
            by_cases hjl : j < X + 2
            · have hul : us.length = (X + 2) * 3 := HOU.out.1
              have q0 := (HOU.out.cellAt (j * 3) (by omega)).trans (List.getElem?_eq_getElem (by omega))
              have q1 := (HOU.out.cellAt (j * 3 + 1) (by omega)).trans (List.getElem?_eq_getElem (by omega))
              have q2 := (HOU.out.cellAt (j * 3 + 2) (by omega)).trans (List.getElem?_eq_getElem (by omega))
              have f0 := HOU.out.frozenAt (j * 3)
              have f1 := HOU.out.frozenAt (j * 3 + 1)
              have f2 := HOU.out.frozenAt (j * 3 + 2)
              generalize us[j * 3] = u0 at *
              generalize us[j * 3 + 1] = u1 at *
              generalize us[j * 3 + 2] = u2 at *
              clear hul
              go_wp2
              go_roundw
              case rel => exact ⟨j + 1, by go_num, by omega, ((HAV.out.setCell (.inl (by simp)) _).setCell (.inl (by simp)) _).setCell (.inl (by simp)) _, _, (((HOU.out.stored (j * 3) _).1.stored (j * 3 + 1) _).1.stored (j * 3 + 2) _).1⟩
              case measure => simp [intOf]; omega
            · obtain rfl : j = X + 2 := by omega
              obtain ⟨b19, l19, hGL⟩ := HB.out.mid HH.out hlt kv kx HKV.out HKX.out HAV.out
              have HL19 := hid l19
              have HB19 := hid b19
              have HGL := hid hGL
              clear b19 l19 hGL
              go_wp2_with fail
              have b0 : wr.drew.cell? ⟨LB, 0, none⟩ = some (.slice (some ⟨G, 0, none⟩) (N + 2) c) := by
                have hb : wr.drew.heap[LB]? = _ := HB19.out
                rw [cell_of_row _ _ _ _ _ _ hb]; rfl
              refine wp_region_held_drew (S := fun X => X.cell? ⟨LB, 0, none⟩ = some (.slice (some ⟨G, 0, none⟩) (N + 2) c)) (by kernel_rfl) b0 (fun hHeld => ?_)
              refine tk 0 132 (.pointer (some ⟨LB, 0, none⟩)) rfl ?_ ?_
              · intro W hSW; go_simp
              simp only [Act.put, List.setIfInBounds_toArray, List.set_cons_zero, List.set_cons_succ]
              refine tk 1 133 (.pointer (some ⟨LB, 0, none⟩)) rfl ?_ ?_
              · intro W hSW; go_simp
              simp only [Act.put, List.setIfInBounds_toArray, List.set_cons_zero, List.set_cons_succ]
              refine tk 2 134 (.pointer (some ⟨LB, 0, none⟩)) rfl ?_ ?_
              · intro W hSW; go_simp
              simp only [Act.put, List.setIfInBounds_toArray, List.set_cons_zero, List.set_cons_succ]
              refine tk 3 135 (.slice (some ⟨G, 0, none⟩) (N + 2) c) rfl ?_ ?_
              · intro W hSW; go_simp
              simp only [Act.put, List.setIfInBounds_toArray, List.set_cons_zero, List.set_cons_succ]
              refine tk 4 136 (.int .i64 (i : Int)) rfl ?_ ?_
              · intro W hSW; go_simp
              simp only [Act.put, List.setIfInBounds_toArray, List.set_cons_zero, List.set_cons_succ]
              refine wpAnyH_ready (rs := [5]) (by kernel_rfl) (by simp) ?_
              refine AllReadyH.cons rfl (fun KK hKK => ?_) AllReadyH.nil
              go_simp
              refine (hM _).mono ?_
              rintro _ W1 ⟨rfl, a1⟩
              dsimp only
              have l20 := own_apart HL19.out ((Apart.refl [] wr).drew.trans a1) (by simp)
              have b20 : W1.heap[LB]? = _ := (((Apart.refl [] wr).drew.trans a1).block LB (lt_of_heap HB19.out) (by simp)).trans HB19.out
              have hS1 : W1.cell? ⟨LB, 0, none⟩ = some (.slice (some ⟨G, 0, none⟩) (N + 2) c) := by rw [cell_of_row _ _ _ _ _ _ b20]; rfl
              have hil : i < (List.replicate i markE ++ (fs.drop i ++ [markE, markE])).length := by simp
              obtain ⟨g0, g1, g2, g3, g4, g5⟩ := flatE_get _ i hil
              have d0 := (l20.cellAt (i * 6) (by omega)).trans g0
              have d1 := (l20.cellAt (i * 6 + 1) (by omega)).trans g1
              have d2 := (l20.cellAt (i * 6 + 2) (by omega)).trans g2
              have d3 := (l20.cellAt (i * 6 + 3) (by omega)).trans g3
              have d4 := (l20.cellAt (i * 6 + 4) (by omega)).trans g4
              have d5 := (l20.cellAt (i * 6 + 5) (by omega)).trans g5
              have f0 := l20.frozenAt (i * 6)
              have f1 := l20.frozenAt (i * 6 + 1)
              have f2 := l20.frozenAt (i * 6 + 2)
              have f3 := l20.frozenAt (i * 6 + 3)
              have f4 := l20.frozenAt (i * 6 + 4)
              have f5 := l20.frozenAt (i * 6 + 5)
              generalize gE (List.replicate i markE ++ (fs.drop i ++ [markE, markE])) i = y at *
              unfold Sl.v at d4 d5
              clear g0 g1 g2 g3 g4 g5 hil l20 b20
              refine hKK.out _ _ hS1 (fun hHeld => ?_)
              clear hKK KK
              refine tk 6 138 (.pointer (some ⟨G, i * 6, none⟩)) rfl ?_ ?_
              · intro W hSW; go_simp <;> (intro hq; exfalso; omega)
              simp only [Act.put, List.setIfInBounds_toArray, List.set_cons_zero, List.set_cons_succ]
              refine wpAnyH_ready (rs := [7]) (by kernel_rfl) (by simp) ?_
              refine AllReadyH.cons rfl (fun KK hKK => ?_) AllReadyH.nil
              go_simp
              refine hKK.out _ _ (((apart_set6 W1 G (i * 6) markE).cell (block_lt_of_cell hS1) (by simpa using fun e => HGL.out e.symm)).trans hS1) (fun hHeld => ?_)
              clear hKK KK
              refine wpAnyH_done (by kernel_rfl) ?_ _
              go_wp2
              go_roundw
              case rel => exact ⟨i + 1, by go_num, by omega, rfl, HB.out.step HH.out hlt kv kx HKV.out HKX.out (HAV.out.drew) a1⟩
              case measure => simp [intOf]; omega
    · obtain rfl : i = N := by omega
      have he : List.replicate i markE ++ (fs.drop i ++ [markE, markE]) = List.replicate (i + 2) markE := by
        rw [List.drop_eq_nil_of_le (by rw [HH.out.fl]; exact Nat.le_refl _), List.nil_append, show i + 2 = i + 1 + 1 from rfl, List.replicate_succ', List.replicate_succ', List.append_assoc]; rfl
      have hl := HB.out.list
      rw [he] at hl
      have HLL := hid hl
      clear hl he
      go_wp2
      go_ret
      exact ⟨rfl, HB.out.fr, HB.out.blk, HLL.out⟩
end Go.Proofs.YtokaeiahhmaokaaGreatDoor.ds
