import Derived.Test.YtopmhacnopfifaaTQ3
namespace Go.Proofs.Ytopmhacnopfifaa.tm
open Go.ChangeShapes Go.WideShapes Go.ChangeAt Go.RowKit
set_option linter.unusedVariables false
set_option linter.unusedSimpArgs false
/-- a queue by its row, and where its entries lie -/
structure Qv (w : World) (Q H : Nat) (v : Value) (row : List E) (n : Nat) (nw : Int) : Prop where
  hq : w.heap[Q]? = some (.cells #[.pointer (some ⟨H, 0, none⟩), .int .i64 (n : Int), .int .i64 nw] 96 (0, 0))
  ex : ∃ es, At w H freshF [] v es n ∧ Hp lex es ∧ es.Perm row
  up : Up row
  di : Dist row
  hm : ∀ e ∈ row, e.m = e.a + 1 ∧ 0 ≤ e.a ∧ e.a < n
structure Ch (w w' : World) (Q H : Nat) (v v' : Value) : Prop where
  ap : Apart (Q :: ids H v) w w'
  nw : NewOr w v v'
theorem Qv.kept {w w' : World} {Q H : Nat} {v : Value} {row : List E} {n : Nat} {nw : Int} {X : List Nat} (h : Qv w Q H v row n nw) (a : Apart X w w') (hx : ∀ k ∈ X, k ≠ Q ∧ k ≠ H ∧ v.ownBlock ≠ some k) : Qv w' Q H v row n nw := by
  obtain ⟨es, h1, h2, h3⟩ := h.ex
  exact ⟨(a.block Q (lt_of_heap h.hq) (fun m => (hx Q m).1 rfl)).trans h.hq, ⟨es, h1.kept a (fun k hk => ⟨(hx k hk).2.1, (hx k hk).2.2, by simp⟩), h2, h3⟩, h.up, h.di, h.hm⟩
theorem Qv.kept0 {w w' : World} {Q H : Nat} {v : Value} {row : List E} {n : Nat} {nw : Int} (h : Qv w Q H v row n nw) (a : Apart [] w w') : Qv w' Q H v row n nw := h.kept a (by simp)
theorem Qv.typ {w : World} {Q H : Nat} {v : Value} {row : List E} {n : Nat} {nw : Int} (h : Qv w Q H v row n nw) : (∃ c, w.heap[Q]? = some (.cells c 96 (0, 0))) ∧ (∃ c, w.heap[H]? = some (.cells c 102 (0, 0))) ∧ ∀ k, v.ownBlock = some k → ∃ c, w.heap[k]? = some (.cells c 100 (0, 0)) := by
  obtain ⟨es, h1, _⟩ := h.ex
  exact ⟨⟨_, h.hq⟩, ⟨_, h1.hh⟩, fun k hk => own_typ h1.own hk⟩
theorem Qv.ne {w : World} {Q H : Nat} {v : Value} {row : List E} {n : Nat} {nw : Int} (h : Qv w Q H v row n nw) : Q ∉ ids H v := by
  intro m
  obtain ⟨_, ⟨c, e⟩, t⟩ := h.typ
  simp [ids] at m
  rcases m with rfl | m
  · rw [h.hq] at e; simp at e
  · obtain ⟨c, e⟩ := t Q m; rw [h.hq] at e; simp at e
theorem Qv.qu {w : World} {Q H : Nat} {v : Value} {row : List E} {n : Nat} {nw : Int} (h : Qv w Q H v row n nw) (w0 : World) (hQ : w0.heap.size ≤ Q) (hH : w0.heap.size ≤ H) (hv : ∀ k, v.ownBlock = some k → w0.heap.size ≤ k) : Qu w0 w Q H row n nw := by
  obtain ⟨es, h1, h2, h3⟩ := h.ex
  exact ⟨h.hq, ⟨⟨es, ⟨⟨v, h1, hv⟩, h2, hH⟩, h3⟩, h.up, h.di⟩, hQ, h.hm⟩
theorem now_v {w : World} {Q H : Nat} {v : Value} {row : List E} {n : Nat} {nw : Int} (q : Qv w Q H v row n nw) : Calls Try.prog 19 #[.pointer (some ⟨Q, 0, none⟩)] w fun r w' => r = .returned (.int .i64 nw) ∧ w' = w := by
  have c2 : w.cell? ⟨Q, 2, none⟩ = some (.int .i64 nw) := by rw [cell_of_row _ _ _ _ _ _ q.hq]; rfl
  clear q
  go_enter Try.func19, Try.ntmps19
  go_wp2
  go_ret
  exact ⟨rfl, rfl⟩
theorem list_v {w : World} {Q H : Nat} {v : Value} {row : List E} {n : Nat} {nw : Int} (q : Qv w Q H v row n nw) (N : Nat) (hN : row.length = N) : Calls Try.prog 20 #[.pointer (some ⟨Q, 0, none⟩)] w fun r w' => ∃ B, r = .returned (.slice (some ⟨B, 0, none⟩) N N) ∧ w'.ownsRow 0 46 4 (.slice (some ⟨B, 0, none⟩) N N) N (flat2 row) ∧ w.heap.size ≤ B ∧ Apart [] w w' := by
  have c0 : w.cell? ⟨Q, 0, none⟩ = some (.pointer (some ⟨H, 0, none⟩)) := by rw [cell_of_row _ _ _ _ _ _ q.hq]; rfl
  obtain ⟨es, h1, h2, h3⟩ := q.ex
  have K : Kind (.func (.func 47) #[] #[]) [] LexR := kindLex
  have hA := all_at K w H v N n es h1 (by rw [h3.length_eq, hN])
  have HQ := hid q
  have H3 := hid h3
  have H2 := hid h2
  clear q h1 h2 h3
  go_enter Try.func20, Try.ntmps20
  go_wp2_with fail
  refine hA.mono ?_
  rintro r w' ⟨B, l, rfl, q⟩
  have hl : l = row := row_unique (HQ.out.di.perm (q.perm.trans H3.out)) (q.perm.trans H3.out) (q.srt lex lexFits H2.out).1 HQ.out.up
  subst hl
  have P : Hid (w'.ownsRow 0 46 4 (.slice (some ⟨B, 0, none⟩) N N) N (flat2 l) ∧ w.heap.size ≤ B ∧ Apart [] w w') := ⟨q.own, q.hB, q.ap⟩
  clear q
  dsimp only
  go_wp2
  go_ret
  exact ⟨B, rfl, P.out⟩
structure ArmV (w w' : World) (r : Ending) (Q H : Nat) (v : Value) (row : List E) (n : Nat) (nw due kind call : Int) : Prop where
  ex : r = .returned (.int .i64 ((n : Int) + 1)) ∧ ∃ v', Qv w' Q H v' (rowAdd row ⟨due, (n : Int) + 1, kind, call, n⟩) (n + 1) nw ∧ Ch w w' Q H v v'
set_option maxHeartbeats 2000000 in
set_option maxRecDepth 100000 in
theorem arm_v {w : World} {Q H : Nat} {v : Value} {row : List E} {n : Nat} {nw : Int} (q : Qv w Q H v row n nw) (hn : n < 3000000) (hl : row.length ≤ n) (due kind call : Int) :
    Calls Try.prog 16 #[.pointer (some ⟨Q, 0, none⟩), .int .i64 due, .int .i64 kind, .int .i64 call] w fun r w' => ArmV w w' r Q H v row n nw due kind call := by
  have hqs := lt_of_heap q.hq
  have c0 : w.cell? ⟨Q, 0, none⟩ = some (.pointer (some ⟨H, 0, none⟩)) := by rw [cell_of_row _ _ _ _ _ _ q.hq]; rfl
  have c1 : w.cell? ⟨Q, 1, none⟩ = some (.int .i64 (n : Int)) := by rw [cell_of_row _ _ _ _ _ _ q.hq]; rfl
  have f1 := frozen_of_row w Q 1 _ _ q.hq
  have hq1 : (w.setCell ⟨Q, 1, none⟩ (.int .i64 ((n : Int) + 1))).heap[Q]? = some (.cells #[.pointer (some ⟨H, 0, none⟩), .int .i64 ((n : Int) + 1), .int .i64 nw] 96 (0, 0)) := by rw [heap_setCell_same _ _ _ _ _ _ q.hq]; rfl
  have hne := q.ne
  obtain ⟨es, h1, h2, h3⟩ := q.ex
  have hty := q.typ
  have aQ : Apart [Q] w (w.setCell ⟨Q, 1, none⟩ (.int .i64 ((n : Int) + 1))) := (Apart.refl _ _).setCell (by simp) _
  have at1 : At (w.setCell ⟨Q, 1, none⟩ (.int .i64 ((n : Int) + 1))).drew H freshF [] v es n := by
    refine (h1.kept aQ (fun k hk => ?_)).kept0 ((Apart.refl [] _).drewN 1)
    simp at hk; subst hk
    simp [ids] at hne
    exact ⟨fun e => hne.1 e, fun e => hne.2 e, by simp⟩
  have hP := push_at kindLex _ H v es n at1 due ((n : Int) + 1) kind call (by rw [h3.length_eq]; omega) (by omega)
  have HKQ : ∀ X, Apart (ids H v) (w.setCell ⟨Q, 1, none⟩ (.int .i64 ((n : Int) + 1))).drew X → X.heap[Q]? = some (.cells #[.pointer (some ⟨H, 0, none⟩), .int .i64 ((n : Int) + 1), .int .i64 nw] 96 (0, 0)) ∧ X.cell? ⟨Q, 0, none⟩ = some (.pointer (some ⟨H, 0, none⟩)) ∧ X.cell? ⟨Q, 1, none⟩ = some (.int .i64 ((n : Int) + 1)) := fun X a => by
    have h := (a.block Q (by simpa [World.setCell] using hqs) hne).trans hq1
    exact ⟨h, by rw [cell_of_row _ _ _ _ _ _ h]; rfl, by rw [cell_of_row _ _ _ _ _ _ h]; rfl⟩
  have cqd := (HKQ _ (Apart.refl _ _)).2
  have HQ1 := hid hq1
  have H2 := hid h2
  have H3 := hid h3
  have HQ := hid q
  have HAQ := hid (aQ.drewN 1)
  clear q h1 h2 h3 hq1 aQ at1 hty hne
  go_enter Try.func16, Try.ntmps16
  go_wp2_with fail
  refine wp_region_held_drew (S := fun X => X.cell? ⟨Q, 0, none⟩ = some (.pointer (some ⟨H, 0, none⟩)) ∧ X.cell? ⟨Q, 1, none⟩ = some (.int .i64 ((n : Int) + 1))) (by kernel_rfl) cqd (fun hHeld => ?_)
  refine wpAnyH_take (i := 0) (oi := ⟨some 16, _, _, _, _, _⟩) (v := (.pointer (some ⟨Q, 0, none⟩))) rfl (by kernel_rfl) (by kernel_rfl) (by kernel_rfl) (fun _ _ _ h => h) (Or.inl ⟨by rfl, ?_⟩) (by assumption) ?_
  · intro W hSW; go_simp
  simp only [Act.put, List.setIfInBounds_toArray, List.set_cons_zero, List.set_cons_succ]
  refine wpAnyH_take (i := 1) (oi := ⟨some 17, _, _, _, _, _⟩) (v := (.pointer (some ⟨Q, 0, none⟩))) rfl (by kernel_rfl) (by kernel_rfl) (by kernel_rfl) (fun _ _ _ h => h) (Or.inl ⟨by rfl, ?_⟩) (by assumption) ?_
  · intro W hSW; go_simp
  simp only [Act.put, List.setIfInBounds_toArray, List.set_cons_zero, List.set_cons_succ]
  refine wpAnyH_take (i := 2) (oi := ⟨some 18, _, _, _, _, _⟩) (v := (.pointer (some ⟨Q, 0, none⟩))) rfl (by kernel_rfl) (by kernel_rfl) (by kernel_rfl) (fun _ _ _ h => h) (Or.inl ⟨by rfl, ?_⟩) (by assumption) ?_
  · intro W hSW; go_simp
  simp only [Act.put, List.setIfInBounds_toArray, List.set_cons_zero, List.set_cons_succ]
  refine wpAnyH_take (i := 3) (oi := ⟨some 19, _, _, _, _, _⟩) (v := (.pointer (some ⟨H, 0, none⟩))) rfl (by kernel_rfl) (by kernel_rfl) (by kernel_rfl) (fun _ _ _ h => h) (Or.inl ⟨by rfl, ?_⟩) (by assumption) ?_
  · intro W hSW; go_simp
  simp only [Act.put, List.setIfInBounds_toArray, List.set_cons_zero, List.set_cons_succ]
  refine wpAnyH_take (i := 4) (oi := ⟨some 20, _, _, _, _, _⟩) (v := (.int .i64 due)) rfl (by kernel_rfl) (by kernel_rfl) (by kernel_rfl) (fun _ _ _ h => h) (Or.inl ⟨by rfl, ?_⟩) (by assumption) ?_
  · intro W hSW; go_simp
  simp only [Act.put, List.setIfInBounds_toArray, List.set_cons_zero, List.set_cons_succ]
  refine wpAnyH_take (i := 5) (oi := ⟨some 21, _, _, _, _, _⟩) (v := (.pointer (some ⟨Q, 0, none⟩))) rfl (by kernel_rfl) (by kernel_rfl) (by kernel_rfl) (fun _ _ _ h => h) (Or.inl ⟨by rfl, ?_⟩) (by assumption) ?_
  · intro W hSW; go_simp
  simp only [Act.put, List.setIfInBounds_toArray, List.set_cons_zero, List.set_cons_succ]
  refine wpAnyH_take (i := 6) (oi := ⟨some 22, _, _, _, _, _⟩) (v := (.pointer (some ⟨Q, 0, none⟩))) rfl (by kernel_rfl) (by kernel_rfl) (by kernel_rfl) (fun _ _ _ h => h) (Or.inl ⟨by rfl, ?_⟩) (by assumption) ?_
  · intro W hSW; go_simp
  simp only [Act.put, List.setIfInBounds_toArray, List.set_cons_zero, List.set_cons_succ]
  refine wpAnyH_take (i := 7) (oi := ⟨some 23, _, _, _, _, _⟩) (v := (.pointer (some ⟨Q, 1, none⟩))) rfl (by kernel_rfl) (by kernel_rfl) (by kernel_rfl) (fun _ _ _ h => h) (Or.inl ⟨by rfl, ?_⟩) (by assumption) ?_
  · intro W hSW; go_simp
  simp only [Act.put, List.setIfInBounds_toArray, List.set_cons_zero, List.set_cons_succ]
  refine wpAnyH_take (i := 8) (oi := ⟨some 24, _, _, _, _, _⟩) (v := (.int .i64 ((n : Int) + 1))) rfl (by kernel_rfl) (by kernel_rfl) (by kernel_rfl) (fun _ _ _ h => h) (Or.inl ⟨by rfl, ?_⟩) (by assumption) ?_
  · intro W hSW; go_simp
  simp only [Act.put, List.setIfInBounds_toArray, List.set_cons_zero, List.set_cons_succ]
  refine wpAnyH_take (i := 9) (oi := ⟨some 25, _, _, _, _, _⟩) (v := (.int .i64 kind)) rfl (by kernel_rfl) (by kernel_rfl) (by kernel_rfl) (fun _ _ _ h => h) (Or.inl ⟨by rfl, ?_⟩) (by assumption) ?_
  · intro W hSW; go_simp
  simp only [Act.put, List.setIfInBounds_toArray, List.set_cons_zero, List.set_cons_succ]
  refine wpAnyH_take (i := 10) (oi := ⟨some 26, _, _, _, _, _⟩) (v := (.int .i64 call)) rfl (by kernel_rfl) (by kernel_rfl) (by kernel_rfl) (fun _ _ _ h => h) (Or.inl ⟨by rfl, ?_⟩) (by assumption) ?_
  · intro W hSW; go_simp
  simp only [Act.put, List.setIfInBounds_toArray, List.set_cons_zero, List.set_cons_succ]
  refine wpAnyH_take (i := 11) (oi := ⟨some 27, _, _, _, _, _⟩) (v := (.agg #[.int .i64 due, .int .i64 ((n : Int) + 1), .int .i64 kind, .int .i64 call])) rfl (by kernel_rfl) (by kernel_rfl) (by kernel_rfl) (fun _ _ _ h => h) (Or.inl ⟨by rfl, ?_⟩) (by assumption) ?_
  · intro W hSW; go_simp
  simp only [Act.put, List.setIfInBounds_toArray, List.set_cons_zero, List.set_cons_succ]
  refine wpAnyH_ready (rs := [12]) (by kernel_rfl) (by simp) ?_
  refine AllReadyH.cons rfl (fun KK hKK => ?_) AllReadyH.nil
  go_simp
  refine hP.mono ?_
  rintro r w4 ⟨rfl, ⟨v', cs, at', perm, hp, ap, nwo⟩⟩
  dsimp only
  have cq4 := HKQ w4 ap
  have P : Hid (ArmV w w4 (.returned (.int .i64 ((n : Int) + 1))) Q H v row n nw due kind call) := by
    have hpm : cs.Perm (row ++ [⟨due, (n : Int) + 1, kind, call, n⟩]) := perm.trans (H3.out.append_right _)
    have hdi : Dist (row ++ [⟨due, (n : Int) + 1, kind, call, n⟩]) := by
      unfold Dist
      rw [List.pairwise_append]
      refine ⟨HQ.out.di, List.pairwise_singleton _ _, fun x hx y hy => ?_⟩
      simp at hy; subst hy
      have := HQ.out.hm x hx
      show x.a ≠ (n : Int)
      omega
    refine ⟨rfl, v', ⟨?_, ⟨cs, at', hp lex lexFits H2.out, hpm.trans (rowOf_perm _).symm⟩, rowOf_up _, hdi.perm (rowOf_perm _), ?_⟩, (HAQ.out.mono (by simp)).trans (ap.mono (fun k hk => List.mem_cons_of_mem _ hk)), nwo.sub HAQ.out.size⟩
    · rw [cq4.1]; rfl
    · intro e he
      have := (rowOf_perm _).subset he
      simp only [List.mem_append, List.mem_singleton] at this
      rcases this with h | rfl
      · have := HQ.out.hm e h; omega
      · exact ⟨by show (n : Int) + 1 = (n : Int) + 1; rfl, by show (0 : Int) ≤ n; omega, by show (n : Int) < ((n + 1 : Nat) : Int); omega⟩
  obtain ⟨_, d0, d1⟩ := cq4
  clear at' perm hp ap nwo
  refine hKK.out _ _ ⟨d0, d1⟩ (fun hHeld => ?_)
  clear hKK KK
  refine wpAnyH_done (by kernel_rfl) ?_ _
  clear HKQ
  go_wp2
  go_ret
  exact P.out
structure CanV (w w' : World) (r : Ending) (Q H : Nat) (v : Value) (row : List E) (n : Nat) (nw k : Int) : Prop where
  ex : ((r = .returned (.bool false) ∧ ∀ e ∈ row, e.m ≠ k) ∨ (r = .returned (.bool true) ∧ ∃ e ∈ row, e.m = k)) ∧ ∃ v', Qv w' Q H v' (row.filter (fun e => decide (e.m ≠ k))) n nw ∧ Ch w w' Q H v v'
set_option maxHeartbeats 2000000 in
set_option maxRecDepth 100000 in
theorem cancel_v {w : World} {Q H : Nat} {v : Value} {row : List E} {n : Nat} {nw : Int} (q : Qv w Q H v row n nw) (k : Int) :
    Calls Try.prog 17 #[.pointer (some ⟨Q, 0, none⟩), .int .i64 k] w fun r w' => CanV w w' r Q H v row n nw k := by
  have aV : Apart [] w (w.alloc (.cells #[.int .i64 k] 3)) := (Apart.refl _ _).alloc _
  have q1 := q.kept0 aV
  obtain ⟨es, h1, o, p⟩ := q1.ex
  have hqs := lt_of_heap q.hq
  have c0 : w.cell? ⟨Q, 0, none⟩ = some (.pointer (some ⟨H, 0, none⟩)) := by rw [cell_of_row _ _ _ _ _ _ q.hq]; rfl
  have c1 : (w.alloc (.cells #[.int .i64 k] 3)).cell? ⟨Q, 0, none⟩ = some (.pointer (some ⟨H, 0, none⟩)) := by rw [cell_of_row _ _ _ _ _ _ q1.hq]; rfl
  have d1 := h1.c1
  have hHs : H < w.heap.size := by
    obtain ⟨es', h1', _⟩ := q.ex
    exact lt_of_heap h1'.hh
  have d1' : w.cell? ⟨H, 1, none⟩ = some v := (aV.cell (p := ⟨H, 1, none⟩) hHs (by simp)).symm.trans d1
  have hI := index_any _ H freshF v n es h1 w.heap.size k (by simp)
  have HQ := hid q
  have HO := hid o
  have HP := hid p
  have HAV := hid aV
  have HAT := hid h1
  clear q q1 o p aV h1 d1
  go_enter Try.func17, Try.ntmps17
  go_wp2_with fail
  refine hI.mono ?_
  rintro r w2 ⟨hres, a2⟩
  have A2 := hid (HAV.out.trans a2)
  have q2 := HQ.out.kept0 A2.out
  have at2 := HAT.out.kept0 a2
  have c2 : w2.cell? ⟨Q, 0, none⟩ = some (.pointer (some ⟨H, 0, none⟩)) := by rw [cell_of_row _ _ _ _ _ _ q2.hq]; rfl
  have Q2 := hid q2
  have AT2 := hid at2
  clear hI a2 q2 at2 c1 c0
  rcases hres with ⟨rfl, hno⟩ | ⟨i, hi, rfl, hm⟩
  · dsimp only
    have hno' : ∀ e ∈ row, e.m ≠ k := fun e he => hno e (HP.out.symm.subset he)
    have P : Hid (CanV w w2 (.returned (.bool false)) Q H v row n nw k) := ⟨.inl ⟨rfl, hno'⟩, v, by rw [filter_all hno']; exact Q2.out, A2.out.mono (by simp), .inl rfl⟩
    clear hno hno'
    go_wp2
    go_ret
    exact P.out
  · dsimp only
    obtain ⟨M, hM⟩ : ∃ M, es.length = M + 1 := ⟨es.length - 1, by omega⟩
    have hsh := AT2.out.shape (by omega)
    obtain ⟨G, cap, rfl, hcap⟩ := hsh
    rw [hM] at AT2 HAT HQ Q2
    have hi' : i ≤ M := by omega
    have hR := remove_at kindLex w2 H G cap M es n i AT2.out hM hi'
    have HM := hid hM
    have HMK := hid hm
    rw [hM] at d1'
    rw [hM]
    clear hM hm hi hcap
    go_wp2_with fail
    refine hR.mono ?_
    rintro r w3 ⟨rfl, ⟨cs, hcl, at3, perm3, hp3, a3⟩⟩
    dsimp only
    have P : Hid (CanV w w3 (.returned (.bool true)) Q H (.slice (some ⟨G, 0, none⟩) (M + 1) cap) row n nw k) := by
      have pr : (g es i :: cs).Perm row := perm3.trans HP.out
      have hids : Apart (ids H (.slice (some ⟨G, 0, none⟩) (M + 1) cap)) w2 w3 := a3.mono (by simp [ids, Value.ownBlock])
      refine ⟨.inr ⟨rfl, g es i, pr.subset (by simp), HMK.out⟩, _, ⟨(hids.block Q (lt_of_heap Q2.out.hq) Q2.out.ne).trans Q2.out.hq, ⟨cs, at3, hp3 lex lexFits HO.out, filter_perm pr HMK.out Q2.out.di (fun e he => (Q2.out.hm e he).1)⟩, List.Pairwise.filter _ Q2.out.up, List.Pairwise.filter _ Q2.out.di, fun e he => Q2.out.hm e (List.mem_filter.1 he).1⟩, (A2.out.mono (by simp)).trans (hids.mono (fun k hk => List.mem_cons_of_mem _ hk)), .inl rfl⟩
    clear at3 perm3 hp3 a3 hR
    go_wp2
    go_ret
    have P2 := P.out
    rw [← HM.out] at P2
    exact P2
end Go.Proofs.Ytopmhacnopfifaa.tm
