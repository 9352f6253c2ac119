import Derived.Test.YtopmhacnopfifaaTQ2
namespace Go.Proofs.Ytopmhacnopfifaa.tm
open Go.ChangeShapes Go.WideShapes Go.ChangeAt Go.RowKit
set_option linter.unusedVariables false
set_option linter.unusedSimpArgs false
theorem now_ok {w0 w : World} {Q H : Nat} {row : List E} {n : Nat} {nw : Int} (q : Qu w0 w Q H row n nw) : Calls Try.prog 19 #[.pointer (some ⟨Q, 0, none⟩)] w fun r w' => r = .returned (.int .i64 nw) ∧ w' = w := by
  have c2 : w.cell? ⟨Q, 2, none⟩ = some (.int .i64 nw) := by rw [cell_of_row _ _ _ _ _ _ q.hq]; rfl
  clear q
  go_enter Try.func19, Try.ntmps19
  go_wp2
  go_ret
  exact ⟨rfl, rfl⟩
theorem list_ok {w0 w : World} {Q H : Nat} {row : List E} {n : Nat} {nw : Int} (q : Qu w0 w Q H row n nw) (N : Nat) (hN : row.length = N) : Calls Try.prog 20 #[.pointer (some ⟨Q, 0, none⟩)] w fun r w' => ∃ B, r = .returned (.slice (some ⟨B, 0, none⟩) N N) ∧ w'.ownsRow 0 46 4 (.slice (some ⟨B, 0, none⟩) N N) N (flat2 row) ∧ w.heap.size ≤ B ∧ Apart [] w w' := by
  have c0 : w.cell? ⟨Q, 0, none⟩ = some (.pointer (some ⟨H, 0, none⟩)) := by rw [cell_of_row _ _ _ _ _ _ q.hq]; rfl
  have hA := row_all q.hr N hN
  clear q
  go_enter Try.func20, Try.ntmps20
  go_wp2_with fail
  refine hA.mono ?_
  rintro r w' ⟨B, rfl, ow, hB, a⟩
  dsimp only
  go_wp2
  go_ret
  exact ⟨B, rfl, ow, hB, a⟩
structure FireN (w0 w w' : World) (r : Ending) (Q H : Nat) (row : List E) (n : Nat) (nw : Int) : Prop where
  ex : r = .returned (.tuple #[.agg #[.int .i64 0, .int .i64 0, .int .i64 0, .int .i64 0], .bool false]) ∧ Apart [] w w'
structure FireP (w0 w w' : World) (r : Ending) (Q H : Nat) (row : List E) (n k : Nat) (nw : Int) : Prop where
  ex : r = .returned (.tuple #[.agg #[.int .i64 (g row k).r, .int .i64 (g row k).m, .int .i64 (g row k).k, .int .i64 (g row k).c], .bool true]) ∧ Qu w0 w' Q H (row.eraseIdx k) n (max nw (g row k).r) ∧ Apart [] w0 w' ∧ KeptQ Q w w'
set_option maxHeartbeats 2000000 in
set_option maxRecDepth 100000 in
theorem fire_none {w0 w : World} {Q H : Nat} {row : List E} {n : Nat} {nw : Int} (q : Qu w0 w Q H row n nw) (k : Int) (hk : k < 0 ∨ (row.length : Int) ≤ k) :
    Calls Try.prog 18 #[.pointer (some ⟨Q, 0, none⟩), .int .i64 k] w fun r w' => FireN w0 w w' r Q H row n nw := by
  have aV : Apart [] w (w.alloc (.cells #[.int .i64 0, .int .i64 0, .int .i64 0, .int .i64 0] 46)) := (Apart.refl _ _).alloc _
  have q1 := q.kept aV
  have hqs := lt_of_heap q.hq
  have c0 : w.cell? ⟨Q, 0, none⟩ = some (.pointer (some ⟨H, 0, none⟩)) := by rw [cell_of_row _ _ _ _ _ _ q.hq]; rfl
  have hT := row_take_none q1.hr k hk
  have bA : (w.alloc (.cells #[.int .i64 0, .int .i64 0, .int .i64 0, .int .i64 0] 46)).heap[w.heap.size]? = some (.cells #[.int .i64 0, .int .i64 0, .int .i64 0, .int .i64 0] 46 (0, 0)) := heap_alloc_new w _
  have HAV := hid aV
  clear q q1 hk aV
  go_enter Try.func18, Try.ntmps18
  go_wp2_with fail
  refine hT.mono ?_
  rintro r w2 ⟨rfl, a2⟩
  dsimp only
  have bA2 := (a2.block _ (lt_of_heap bA) (by simp)).trans bA
  have hs2 : w.heap.size < w2.heap.size := lt_of_heap bA2
  have x0 : w2.cell? ⟨w.heap.size, 0, none⟩ = some (.int .i64 0) := by rw [cell_of_row _ _ _ _ _ _ bA2]; rfl
  have x1 : w2.cell? ⟨w.heap.size, 1, none⟩ = some (.int .i64 0) := by rw [cell_of_row _ _ _ _ _ _ bA2]; rfl
  have x2 : w2.cell? ⟨w.heap.size, 2, none⟩ = some (.int .i64 0) := by rw [cell_of_row _ _ _ _ _ _ bA2]; rfl
  have x3 : w2.cell? ⟨w.heap.size, 3, none⟩ = some (.int .i64 0) := by rw [cell_of_row _ _ _ _ _ _ bA2]; rfl
  have f0 := frozen_of_row w2 w.heap.size 0 _ _ bA2
  have f1 := frozen_of_row w2 w.heap.size 1 _ _ bA2
  have f2 := frozen_of_row w2 w.heap.size 2 _ _ bA2
  have f3 := frozen_of_row w2 w.heap.size 3 _ _ bA2
  have bR0 := row4 bA2 (.int .i64 0) (.int .i64 0) (.int .i64 0) (.int .i64 0)
  have bR := (((Apart.refl [] _).alloc (.cells #[.int .i64 0, .int .i64 0, .int .i64 0, .int .i64 0] 46)).block _ (lt_of_heap bR0) (by simp)).trans bR0
  have post : Hid (Apart [] w (((((w2.setCell ⟨w.heap.size, 0, none⟩ (.int .i64 0)).setCell ⟨w.heap.size, 1, none⟩ (.int .i64 0)).setCell ⟨w.heap.size, 2, none⟩ (.int .i64 0)).setCell ⟨w.heap.size, 3, none⟩ (.int .i64 0)).alloc (.cells #[.int .i64 0, .int .i64 0, .int .i64 0, .int .i64 0] 46))) :=
    ((HAV.out.trans a2).trans' (((((Apart.refl [w.heap.size] _).setCell (by simp) _).setCell (by simp) _).setCell (by simp) _).setCell (by simp) _) (by simp)).alloc _
  clear bR0
  clear bA bA2 hT a2
  go_wp2
  refine bodyPost_ret (results_ct rfl _ _ w.heap.size 46 (.int .i64 0) (.int .i64 0) (.int .i64 0) (.int .i64 0) (0, 0) rfl bR) rfl ?_
  exact ⟨rfl, post.out⟩
def chainF (W3 : World) (Q A : Nat) (mx r m k c : Int) : World := ((((W3.setCell ⟨Q, 2, none⟩ (.int .i64 mx)).setCell ⟨A, 0, none⟩ (.int .i64 r)).setCell ⟨A, 1, none⟩ (.int .i64 m)).setCell ⟨A, 2, none⟩ (.int .i64 k)).setCell ⟨A, 3, none⟩ (.int .i64 c)
structure FEnd (w0 w X : World) (Q H A n : Nat) (row' : List E) (mx r m k c : Int) : Prop where
  bA : X.heap[A]? = some (.cells #[.int .i64 r, .int .i64 m, .int .i64 k, .int .i64 c] 46 (0, 0))
  qu : Qu w0 X Q H row' n mx
  ap : Apart [] w0 X
  kq : KeptQ Q w X
theorem fire_end {w0 w W3 : World} {Q H A n : Nat} {row' : List E} {nw mx r m k c : Int} {z0 z1 z2 z3 : Value} (hq : W3.heap[Q]? = some (.cells #[.pointer (some ⟨H, 0, none⟩), .int .i64 (n : Int), .int .i64 nw] 96 (0, 0))) (ba : W3.heap[A]? = some (.cells #[z0, z1, z2, z3] 46 (0, 0))) (hr : HRow w0 W3 H row' n) (a0 : Apart [] w0 W3) (k3 : KeptQ Q w W3) (hQ : w0.heap.size ≤ Q) (hA : w.heap.size ≤ A) (hwA : w0.heap.size ≤ A) (hm : ∀ e ∈ row', e.m = e.a + 1 ∧ 0 ≤ e.a ∧ e.a < n) :
    FEnd w0 w (chainF W3 Q A mx r m k c).drew Q H A n row' mx r m k c := by
  have hne : A ≠ Q := fun e => by rw [e, hq] at ba; simp at ba
  have aQ : Apart [Q] W3 (W3.setCell ⟨Q, 2, none⟩ (.int .i64 mx)) := (Apart.refl _ _).setCell (by simp) _
  have hq4 : (W3.setCell ⟨Q, 2, none⟩ (.int .i64 mx)).heap[Q]? = some (.cells #[.pointer (some ⟨H, 0, none⟩), .int .i64 (n : Int), .int .i64 mx] 96 (0, 0)) := by rw [heap_setCell_same _ _ _ _ _ _ hq]; rfl
  have ba4 := (aQ.block A (lt_of_heap ba) (by simpa using hne)).trans ba
  have q4 : Qu w0 (W3.setCell ⟨Q, 2, none⟩ (.int .i64 mx)) Q H row' n mx := ⟨hq4, hr.setq hq 2 _, hQ, hm⟩
  have bR : (chainF W3 Q A mx r m k c).heap[A]? = _ := row4 ba4 (.int .i64 r) (.int .i64 m) (.int .i64 k) (.int .i64 c)
  have aA : Apart [A] (W3.setCell ⟨Q, 2, none⟩ (.int .i64 mx)) (chainF W3 Q A mx r m k c) := ((((Apart.refl _ _).setCell (by simp) _).setCell (by simp) _).setCell (by simp) _).setCell (by simp) _
  generalize chainF W3 Q A mx r m k c = X at *
  generalize W3.setCell ⟨Q, 2, none⟩ (.int .i64 mx) = W4 at *
  replace aA := aA.drewN 1
  refine ⟨bR, q4.other aA (fun k hk => by simp at hk; subst hk; exact ⟨_, _, _, ba4, by decide, by decide, by decide⟩), (a0.trans' aQ (by simp; exact hQ)).trans' aA (by simp; exact hwA), ⟨Nat.le_trans k3.size (Nat.le_trans aQ.size aA.size), fun i cur t f h1 h2 h3 h4 => ?_⟩⟩
  have hi := lt_of_heap h1
  have g1 := k3.same i cur t f h1 h2 h3 h4
  exact (aA.block i (Nat.lt_of_lt_of_le (lt_of_heap g1) aQ.size) (by simp; omega)).trans ((aQ.block i (lt_of_heap g1) (by simpa using h4)).trans g1)
set_option maxHeartbeats 2000000 in
set_option maxRecDepth 100000 in
theorem fire_some {w0 w : World} {Q H : Nat} {row : List E} {n : Nat} {nw : Int} (q : Qu w0 w Q H row n nw) (a0 : Apart [] w0 w) (k : Nat) (hk : k < row.length) :
    Calls Try.prog 18 #[.pointer (some ⟨Q, 0, none⟩), .int .i64 k] w fun r w' => FireP w0 w w' r Q H row n k nw := by
  have aV : Apart [] w (w.alloc (.cells #[.int .i64 0, .int .i64 0, .int .i64 0, .int .i64 0] 46)) := (Apart.refl _ _).alloc _
  have q1 := q.kept aV
  have hqs := lt_of_heap q.hq
  have c0 : w.cell? ⟨Q, 0, none⟩ = some (.pointer (some ⟨H, 0, none⟩)) := by rw [cell_of_row _ _ _ _ _ _ q.hq]; rfl
  have hT := row_takes q1.hr (a0.trans aV) k hk
  have bA : (w.alloc (.cells #[.int .i64 0, .int .i64 0, .int .i64 0, .int .i64 0] 46)).heap[w.heap.size]? = some (.cells #[.int .i64 0, .int .i64 0, .int .i64 0, .int .i64 0] 46 (0, 0)) := heap_alloc_new w _
  have HAV := hid aV
  have HQ := hid q
  have HQ1 := hid q1
  have HK := hid hk
  have HA0 := hid a0
  clear q q1 hk aV a0
  go_enter Try.func18, Try.ntmps18
  go_wp2_with fail
  refine hT.mono ?_
  rintro r w2 ⟨rfl, hr2, a2, s2, k2⟩
  dsimp only
  obtain ⟨e, He⟩ : ∃ e, Hid (g row k = e) := ⟨_, rfl⟩
  rw [He.out]
  have bA2 := k2 _ _ _ _ bA (by decide) (by decide)
  have hs2 : w.heap.size < w2.heap.size := lt_of_heap bA2
  have hq2 := k2 _ _ _ _ HQ1.out.hq (by decide) (by decide)
  have hneQ : Q ≠ w.heap.size := by omega
  have hneQ' : w.heap.size ≠ Q := by omega
  have hneQ2 : w2.heap.size ≠ Q := by omega
  have hneQ3 : Q ≠ w2.heap.size := by omega
  have HR2 := hid hr2
  have HA2 := hid a2
  have HK2 := hid k2
  have BA2 := hid bA2
  have HQ2 := hid hq2
  clear hT hr2 a2 k2 bA2 hq2 bA c0
  go_wp2_with fail
  have aD : Apart [] w2 (w2.alloc (.cells #[.int .i64 e.r, .int .i64 e.m, .int .i64 e.k, .int .i64 e.c] 46)) := (Apart.refl _ _).alloc _
  have bE : (w2.alloc (.cells #[.int .i64 e.r, .int .i64 e.m, .int .i64 e.k, .int .i64 e.c] 46)).heap[w2.heap.size]? = some (.cells #[.int .i64 e.r, .int .i64 e.m, .int .i64 e.k, .int .i64 e.c] 46 (0, 0)) := heap_alloc_new w2 _
  obtain ⟨W3, hW3⟩ : ∃ W3, w2.alloc (.cells #[.int .i64 e.r, .int .i64 e.m, .int .i64 e.k, .int .i64 e.c] 46) = W3 := ⟨_, rfl⟩
  rw [hW3] at aD bE ⊢
  have HW3 := hid hW3
  clear hW3
  have HQ3 := hid ((aD.block Q (lt_of_heap HQ2.out) (by simp)).trans HQ2.out)
  have BA3 := hid ((aD.block _ hs2 (by simp)).trans BA2.out)
  have y2 : W3.cell? ⟨Q, 2, none⟩ = some (.int .i64 nw) := by rw [cell_of_row _ _ _ _ _ _ HQ3.out]; rfl
  have g2 := frozen_of_row W3 Q 2 _ _ HQ3.out
  have x0 : W3.cell? ⟨w.heap.size, 0, none⟩ = some (.int .i64 0) := by rw [cell_of_row _ _ _ _ _ _ BA3.out]; rfl
  have x1 : W3.cell? ⟨w.heap.size, 1, none⟩ = some (.int .i64 0) := by rw [cell_of_row _ _ _ _ _ _ BA3.out]; rfl
  have x2 : W3.cell? ⟨w.heap.size, 2, none⟩ = some (.int .i64 0) := by rw [cell_of_row _ _ _ _ _ _ BA3.out]; rfl
  have x3 : W3.cell? ⟨w.heap.size, 3, none⟩ = some (.int .i64 0) := by rw [cell_of_row _ _ _ _ _ _ BA3.out]; rfl
  have f0 := frozen_of_row W3 w.heap.size 0 _ _ BA3.out
  have f1 := frozen_of_row W3 w.heap.size 1 _ _ BA3.out
  have f2 := frozen_of_row W3 w.heap.size 2 _ _ BA3.out
  have f3 := frozen_of_row W3 w.heap.size 3 _ _ BA3.out
  obtain ⟨D, hD⟩ : ∃ D, w2.heap.size = D := ⟨_, rfl⟩
  rw [hD] at bE hneQ2 hneQ3 ⊢
  have hDA : D ≠ w.heap.size := by omega
  have hDA' : w.heap.size ≠ D := by omega
  have z0 : W3.cell? ⟨D, 0, none⟩ = some (.int .i64 e.r) := by rw [cell_of_row _ _ _ _ _ _ bE]; rfl
  have z1 : W3.cell? ⟨D, 1, none⟩ = some (.int .i64 e.m) := by rw [cell_of_row _ _ _ _ _ _ bE]; rfl
  have z2 : W3.cell? ⟨D, 2, none⟩ = some (.int .i64 e.k) := by rw [cell_of_row _ _ _ _ _ _ bE]; rfl
  have z3 : W3.cell? ⟨D, 3, none⟩ = some (.int .i64 e.c) := by rw [cell_of_row _ _ _ _ _ _ bE]; rfl
  have HAD := hid aD
  clear aD bE
  clear hs2 hD
  have FE : ∀ mx, Hid (FEnd w0 w (chainF W3 Q w.heap.size mx e.r e.m e.k e.c).drew Q H w.heap.size n (row.eraseIdx k) mx e.r e.m e.k e.c) := fun mx =>
    fire_end HQ3.out BA3.out (HR2.out.kept HAD.out) (HA2.out.trans HAD.out) (((KeptQ.of HAV.out).trans (KeptQ.kept HK2.out s2)).trans (KeptQ.of HAD.out)) HQ.out.hQ (Nat.le_refl _) HA0.out.size (fun e he => HQ.out.hm e ((List.eraseIdx_sublist _ _).subset he))
  clear s2
  go_region
  go_wp2
  · have fe := (FE e.r).out
    change bodyPost _ _ _ _ _ (chainF W3 Q w.heap.size e.r e.r e.m e.k e.c).drew
    generalize (chainF W3 Q w.heap.size e.r e.r e.m e.k e.c).drew = X at *
    refine bodyPost_ret (results_ct rfl _ _ w.heap.size 46 (.int .i64 e.r) (.int .i64 e.m) (.int .i64 e.k) (.int .i64 e.c) (0, 0) rfl fe.bA) rfl ?_
    refine ⟨by rw [He.out]; rfl, ?_, fe.ap, fe.kq⟩
    rw [He.out, Int.max_eq_right (by omega)]; exact fe.qu
  · have fe := (FE nw).out
    change bodyPost _ _ _ _ _ (chainF W3 Q w.heap.size nw e.r e.m e.k e.c).drew
    generalize (chainF W3 Q w.heap.size nw e.r e.m e.k e.c).drew = X at *
    refine bodyPost_ret (results_ct rfl _ _ w.heap.size 46 (.int .i64 e.r) (.int .i64 e.m) (.int .i64 e.k) (.int .i64 e.c) (0, 0) rfl fe.bA) rfl ?_
    refine ⟨by rw [He.out]; rfl, ?_, fe.ap, fe.kq⟩
    rw [He.out, Int.max_eq_left h]; exact fe.qu
end Go.Proofs.Ytopmhacnopfifaa.tm
