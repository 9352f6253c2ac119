import Derived.Test.YtopmhacnopfifaaRF
namespace Go.Proofs.Ytopmhacnopfifaa.tm
open Go.ChangeShapes Go.WideShapes Go.ChangeAt Go.RowKit
set_option linter.unusedVariables false
set_option linter.unusedSimpArgs false
/-- the program's list, of which so many are written over -/
structure LsI (V wq : World) (LB N j : Nat) (row : List E) : Prop where
  ap : Apart [LB] V wq
  ex : ∃ cur, wq.heap[LB]? = some (.cells cur 46 (0, 0)) ∧ N * 4 ≤ cur.size ∧ ∀ x, j * 4 ≤ x → x < N * 4 → cur[x]? = (flat2 row)[x]?
theorem LsI.get {V wq : World} {LB N j : Nat} {row : List E} (h : LsI V wq LB N j row) (hl : row.length = N) (hj : j < N) {X : World} (a : Apart [] wq X) :
    X.cell? ⟨LB, j * 4, none⟩ = some (.int .i64 (g row j).r) ∧ X.cell? ⟨LB, j * 4 + 1, none⟩ = some (.int .i64 (g row j).m) ∧ X.cell? ⟨LB, j * 4 + 2, none⟩ = some (.int .i64 (g row j).k) ∧ X.cell? ⟨LB, j * 4 + 3, none⟩ = some (.int .i64 (g row j).c) := by
  obtain ⟨cur, h1, h2, h3⟩ := h.ex
  have h4 := (a.block LB (lt_of_heap h1) (by simp)).trans h1
  obtain ⟨q0, q1, q2, q3⟩ := flat2_get row j (by omega)
  refine ⟨?_, ?_, ?_, ?_⟩
  · rw [cell_of_row _ _ _ _ _ _ h4, h3 _ (by omega) (by omega)]; exact q0
  · rw [cell_of_row _ _ _ _ _ _ h4, h3 _ (by omega) (by omega)]; exact q1
  · rw [cell_of_row _ _ _ _ _ _ h4, h3 _ (by omega) (by omega)]; exact q2
  · rw [cell_of_row _ _ _ _ _ _ h4, h3 _ (by omega) (by omega)]; exact q3
theorem LsI.step {V wq X : World} {LB N j : Nat} {row : List E} (h : LsI V wq LB N j row) (a : Apart [] wq X) (v : Value) : LsI V (X.setCell ⟨LB, j * 4, none⟩ v) LB N (j + 1) row := by
  obtain ⟨cur, h1, h2, h3⟩ := h.ex
  have h4 := (a.block LB (lt_of_heap h1) (by simp)).trans h1
  refine ⟨(h.ap.trans (a.mono (by simp))).trans ((Apart.refl _ _).setCell (by simp) _), cur.setIfInBounds (j * 4) v, heap_setCell_same _ _ _ _ _ _ h4, by simpa using h2, fun x hx hx2 => ?_⟩
  rw [Array.getElem?_setIfInBounds_ne (by omega)]
  exact h3 x (by omega) hx2
theorem LsI.frozen {V wq X : World} {LB N j : Nat} {row : List E} (h : LsI V wq LB N j row) (a : Apart [] wq X) (x : Nat) : X.frozen? ⟨LB, x, none⟩ = false := by
  obtain ⟨cur, h1, h2, h3⟩ := h.ex
  exact frozen_of_row X LB x _ _ ((a.block LB (lt_of_heap h1) (by simp)).trans h1)
theorem LsI.start {V : World} {LB N : Nat} {row : List E} (h : V.ownsRow 0 46 4 (.slice (some ⟨LB, 0, none⟩) N N) N (flat2 row)) (hl : row.length = N) : LsI V V LB N 0 row := by
  obtain ⟨hle, ⟨hv, hz⟩ | ⟨g', cap, cur, hv, hb, hr, hle2, hcs, hsz, htk⟩⟩ := h
  · simp at hv
  · simp at hv
    obtain ⟨rfl, rfl⟩ := hv
    refine ⟨Apart.refl _ _, cur, hr, by omega, fun x _ hx => ?_⟩
    rw [← htk, List.getElem?_take_of_lt hx]
    simp
set_option maxHeartbeats 2000000 in
set_option maxRecDepth 100000 in
theorem listed_ok {w : World} {Q H : Nat} {v : Value} {row : List E} {n : Nat} {nw : Int} (q : Qv w Q H v row n nw) {R o : Nat} {cs : Array Value} {lv : Value} {L : List E} {n2 : Nat} {nw2 : Int} (h : Rq w R o cs lv L n2 nw2) (inc : Inc L) (p : L.Perm row) :
    Calls Try.prog 23 #[.pointer (some ⟨Q, 0, none⟩), .pointer (some ⟨R, o, none⟩)] w fun r w' => r = .returned (.bool true) ∧ Apart [] w w' := by
  obtain ⟨N, hN⟩ : ∃ N, row.length = N := ⟨_, rfl⟩
  have hN12 : N ≤ 1200000 := by rw [← hN, ← p.length_eq]; exact h.hl
  have hLi := list_v q N hN
  have HQ := hid q
  have HRQ := hid h
  have HN := hid hN
  have HIN := hid inc
  have HPM := hid p
  clear q h inc p hN
  go_enter Try.func23, Try.ntmps23
  go_wp2_with fail
  refine hLi.mono ?_
  rintro r w2 ⟨LB, rfl, ol2, hLB, a2⟩
  dsimp only
  clear hLi
  have hRl := rlist_ok (HRQ.out.kept a2) HIN.out row HPM.out HQ.out.up HQ.out.di N HN.out
  have HO2 := hid ol2
  have HA2 := hid a2
  clear ol2 a2
  go_wp2_with fail
  refine hRl.mono ?_
  rintro r w3 ⟨mq, c, rfl, om3, a3⟩
  dsimp only
  clear hRl
  have HS := hid (LsI.start (own_apart HO2.out a3 (by simp)) HN.out)
  have HM3 := hid om3
  have hLBs := (HO2.out.lt LB rfl).2
  have HA3 := hid (HA2.out.trans a3)
  clear om3 a3
  go_wp2_with fail
  go_loopw [7] (fun x wq => ∃ j : Nat, j ≤ N ∧ x = .int .i64 j ∧ LsI w3 wq LB N j row) (fun x _ => N - (intOf x).toNat)
  case atStart => exact ⟨0, Nat.zero_le _, rfl, HS.out⟩
  case round =>
    obtain ⟨j, hj, rfl, hI⟩ := hrel
    have HI := hid hI
    clear hI
    by_cases hlt : j < N
    · obtain ⟨MB, rfl⟩ : ∃ MB, mq = some ⟨MB, 0, none⟩ := by
        rcases own_shape2 HM3.out with ⟨_, hz⟩ | ⟨g', c', hv, _⟩
        · omega
        · simp at hv; exact ⟨g', hv.1⟩
      have hMB := (HM3.out.lt MB rfl).1
      have hne : MB ≠ LB := by omega
      have n4 : ∀ X, Apart [] wr X → X.cell? ⟨LB, j * 4, none⟩ = some (.int .i64 (g row j).r) ∧ X.cell? ⟨LB, j * 4 + 1, none⟩ = some (.int .i64 (g row j).m) ∧ X.cell? ⟨LB, j * 4 + 2, none⟩ = some (.int .i64 (g row j).k) ∧ X.cell? ⟨LB, j * 4 + 3, none⟩ = some (.int .i64 (g row j).c) := fun X a => HI.out.get HN.out hlt a
      have m4 : ∀ X, Apart [] wr X → X.cell? ⟨MB, j * 4, none⟩ = some (.int .i64 (g row j).r) ∧ X.cell? ⟨MB, j * 4 + 1, none⟩ = some (.int .i64 (g row j).m) ∧ X.cell? ⟨MB, j * 4 + 2, none⟩ = some (.int .i64 (g row j).k) ∧ X.cell? ⟨MB, j * 4 + 3, none⟩ = some (.int .i64 (g row j).c) := fun X a => own4_get (own_base (own_apart (own_apart HM3.out HI.out.ap (fun k hk m => by simp [Value.ownBlock] at hk m; omega)) a (by simp)) (Nat.zero_le _)) HN.out rfl j hlt
      obtain ⟨e, He⟩ : ∃ e, Hid (g row j = e) := ⟨_, rfl⟩
      rw [He.out] at n4 m4
      have n0 := fun X a => (n4 X a).1
      have n1 := fun X a => (n4 X a).2.1
      have n2 := fun X a => (n4 X a).2.2.1
      have n3 := fun X a => (n4 X a).2.2.2
      have m0 := fun X a => (m4 X a).1
      have m1 := fun X a => (m4 X a).2.1
      have m2 := fun X a => (m4 X a).2.2.1
      have m3 := fun X a => (m4 X a).2.2.2
      have adq : Apart [] wr wr.drew := (Apart.refl _ _).drewN 1
      clear n4 m4
      go_wp2_with fail
      refine wp_region_held_drew (S := fun X => Apart [] wr X) (by kernel_rfl) adq (fun hHeld => ?_)
      refine wpAnyH_take (i := 0) (oi := ⟨some 23, _, _, _, _, _⟩) (v := (.slice (some ⟨LB, 0, none⟩) N N)) rfl (by kernel_rfl) (by kernel_rfl) (by kernel_rfl) (fun _ _ _ h => h) (Or.inl ⟨by rfl, ?_⟩) (by assumption) ?_
      · intro W hSW; go_simp
      simp only [Act.put, List.setIfInBounds_toArray, List.set_cons_zero, List.set_cons_succ]
      refine wpAnyH_take (i := 1) (oi := ⟨some 24, _, _, _, _, _⟩) (v := (.int .i64 (j : Nat))) rfl (by kernel_rfl) (by kernel_rfl) (by kernel_rfl) (fun _ _ _ h => h) (Or.inl ⟨by rfl, ?_⟩) (by assumption) ?_
      · intro W hSW; go_simp
      simp only [Act.put, List.setIfInBounds_toArray, List.set_cons_zero, List.set_cons_succ]
      refine wpAnyH_take (i := 2) (oi := ⟨some 25, _, _, _, _, _⟩) (v := (.pointer (some ⟨LB, j * 4, none⟩))) rfl (by kernel_rfl) (by kernel_rfl) (by kernel_rfl) (fun _ _ _ h => h) (Or.inl ⟨by rfl, ?_⟩) (by assumption) ?_
      · intro W hSW; go_simp
      simp only [Act.put, List.setIfInBounds_toArray, List.set_cons_zero, List.set_cons_succ]
      refine wpAnyH_take (i := 3) (oi := ⟨some 26, _, _, _, _, _⟩) (v := (.agg #[.int .i64 e.r, .int .i64 e.m, .int .i64 e.k, .int .i64 e.c])) rfl (by kernel_rfl) (by kernel_rfl) (by kernel_rfl) (fun _ _ _ h => h) (Or.inl ⟨by rfl, ?_⟩) (by assumption) ?_
      · intro W hSW; go_simp
      simp only [Act.put, List.setIfInBounds_toArray, List.set_cons_zero, List.set_cons_succ]
      refine wpAnyH_take (i := 4) (oi := ⟨some 27, _, _, _, _, _⟩) (v := (.slice (some ⟨MB, 0, none⟩) N c)) rfl (by kernel_rfl) (by kernel_rfl) (by kernel_rfl) (fun _ _ _ h => h) (Or.inl ⟨by rfl, ?_⟩) (by assumption) ?_
      · intro W hSW; go_simp
      simp only [Act.put, List.setIfInBounds_toArray, List.set_cons_zero, List.set_cons_succ]
      refine wpAnyH_take (i := 5) (oi := ⟨some 28, _, _, _, _, _⟩) (v := (.int .i64 (j : Nat))) rfl (by kernel_rfl) (by kernel_rfl) (by kernel_rfl) (fun _ _ _ h => h) (Or.inl ⟨by rfl, ?_⟩) (by assumption) ?_
      · intro W hSW; go_simp
      simp only [Act.put, List.setIfInBounds_toArray, List.set_cons_zero, List.set_cons_succ]
      refine wpAnyH_take (i := 6) (oi := ⟨some 29, _, _, _, _, _⟩) (v := (.pointer (some ⟨MB, j * 4, none⟩))) rfl (by kernel_rfl) (by kernel_rfl) (by kernel_rfl) (fun _ _ _ h => h) (Or.inl ⟨by rfl, ?_⟩) (by assumption) ?_
      · intro W hSW; go_simp
      simp only [Act.put, List.setIfInBounds_toArray, List.set_cons_zero, List.set_cons_succ]
      refine wpAnyH_take (i := 7) (oi := ⟨some 30, _, _, _, _, _⟩) (v := (.agg #[.int .i64 e.r, .int .i64 e.m, .int .i64 e.k, .int .i64 e.c])) rfl (by kernel_rfl) (by kernel_rfl) (by kernel_rfl) (fun _ _ _ h => h) (Or.inl ⟨by rfl, ?_⟩) (by assumption) ?_
      · intro W hSW; go_simp
      simp only [Act.put, List.setIfInBounds_toArray, List.set_cons_zero, List.set_cons_succ]
      refine wpAnyH_ready (rs := [8]) (by kernel_rfl) (by simp) ?_
      refine AllReadyH.cons rfl (fun KK hKK => ?_) AllReadyH.nil
      go_simp
      refine (same_ok _ e).mono ?_
      rintro r w4 ⟨rfl, a4⟩
      dsimp only
      have a5 := adq.trans a4
      refine hKK.out _ _ a5 (fun hHeld => ?_)
      clear hKK KK
      refine wpAnyH_take (i := 9) (oi := ⟨some 32, _, _, _, _, _⟩) (v := (.bool false)) rfl (by kernel_rfl) (by kernel_rfl) (by kernel_rfl) (fun _ _ _ h => h) (Or.inl ⟨by rfl, ?_⟩) (by assumption) ?_
      · intro W hSW; go_simp
      simp only [Act.put, List.setIfInBounds_toArray, List.set_cons_zero, List.set_cons_succ]
      refine wpAnyH_done (by kernel_rfl) ?_ _
      have w0 := n0 w4 a5
      have fz := HI.out.frozen a5 (j * 4)
      have HS2 := hid (HI.out.step a5 (.int .i64 (-77)))
      clear n0 n1 n2 n3 m0 m1 m2 m3
      go_wp2
      go_roundw
      case rel => exact ⟨j + 1, by omega, by go_num, HS2.out⟩
      case measure => simp [intOf]; omega
    · have P : Hid (Apart [] w wr) := HA3.out.trans' HI.out.ap (by simp; omega)
      clear HI
      go_wp2
      go_ret
      exact ⟨rfl, P.out⟩
end Go.Proofs.Ytopmhacnopfifaa.tm
