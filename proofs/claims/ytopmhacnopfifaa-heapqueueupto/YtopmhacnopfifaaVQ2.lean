import Derived.Test.YtopmhacnopfifaaVQ1
namespace Go.Proofs.Ytopmhacnopfifaa.tm
open Go.ChangeShapes Go.WideShapes Go.ChangeAt Go.RowKit
set_option linter.unusedVariables false
set_option linter.unusedSimpArgs false
theorem fireV_none {w : World} {Q H : Nat} {v : Value} {row : List E} {n : Nat} {nw : Int} (q : Qv w Q H v row n nw) (k : Int) (hk : k < 0 ∨ (row.length : Int) ≤ k) :
    Calls Try.prog 18 #[.pointer (some ⟨Q, 0, none⟩), .int .i64 k] w fun r w' => r = .returned (.tuple #[.agg #[.int .i64 0, .int .i64 0, .int .i64 0, .int .i64 0], .bool false]) ∧ Apart [] w w' := by
  refine (fire_none (q.qu { w with heap := #[] } (by simp) (by simp) (by simp)) k hk).mono ?_
  rintro r w' ⟨h⟩
  exact h
theorem v_take {w : World} {Q H : Nat} {v : Value} {row : List E} {n : Nat} {nw : Int} (q : Qv w Q H v row n nw) (k : Nat) (hk : k < row.length) :
    Calls Try.prog 38 #[.pointer (some ⟨H, 0, none⟩), .int .i64 k] w fun r w' => r = .returned (.tuple #[.agg #[.int .i64 (g row k).r, .int .i64 (g row k).m, .int .i64 (g row k).k, .int .i64 (g row k).c], .bool true]) ∧ ∃ v', Qv w' Q H v' (row.eraseIdx k) n nw ∧ Apart (ids H v) w w' ∧ NewOr w v v' := by
  have hne := q.ne
  obtain ⟨es, h1, h2, h3⟩ := q.ex
  have hl := h3.length_eq
  obtain ⟨G, cap, rfl, hcap⟩ := h1.shape (by omega)
  refine (take_at kindLex w H G cap es.length k n es h1 rfl (by omega)).mono ?_
  rintro r w' ⟨e, rfl, t⟩
  obtain ⟨v', ps, rest, cs, hpl, at', p1, p2, p3, ap, nwo⟩ := t.ex
  obtain ⟨q1, q2⟩ := p3 lex lexFits h2
  obtain ⟨r1, r2⟩ := row_take q.di q.up (p2.trans h3) q2 p1
  subst hpl
  subst r1
  exact ⟨rfl, v', ⟨(ap.block Q (lt_of_heap q.hq) hne).trans q.hq, ⟨cs, at', q1, r2⟩, q.up.erase _, q.di.erase _, fun e he => q.hm e ((List.eraseIdx_sublist _ _).subset he)⟩, ap, nwo⟩
structure FEndV (W3 X : World) (Q H A n : Nat) (v : Value) (row' : List E) (mx r m k c : Int) : Prop where
  bA : X.heap[A]? = some (.cells #[.int .i64 r, .int .i64 m, .int .i64 k, .int .i64 c] 46 (0, 0))
  qu : Qv X Q H v row' n mx
  ap : Apart [Q, A] W3 X
theorem fire_endV {W3 : World} {Q H A n : Nat} {v : Value} {row' : List E} {nw mx r m k c : Int} {z0 z1 z2 z3 : Value} (q : Qv W3 Q H v row' n nw) (ba : W3.heap[A]? = some (.cells #[z0, z1, z2, z3] 46 (0, 0))) :
    FEndV W3 (chainF W3 Q A mx r m k c).drew Q H A n v row' mx r m k c := by
  have hne : A ≠ Q := fun e => by rw [e, q.hq] at ba; simp at ba
  have aQ : Apart [Q] W3 (W3.setCell ⟨Q, 2, none⟩ (.int .i64 mx)) := (Apart.refl _ _).setCell (by simp) _
  have hq4 : (W3.setCell ⟨Q, 2, none⟩ (.int .i64 mx)).heap[Q]? = some (.cells #[.pointer (some ⟨H, 0, none⟩), .int .i64 (n : Int), .int .i64 mx] 96 (0, 0)) := by rw [heap_setCell_same _ _ _ _ _ _ q.hq]; rfl
  have ba4 := (aQ.block A (lt_of_heap ba) (by simpa using hne)).trans ba
  have q4 : Qv (W3.setCell ⟨Q, 2, none⟩ (.int .i64 mx)) Q H v row' n mx := by
    have hn := q.ne
    obtain ⟨es, h1, h2, h3⟩ := q.ex
    refine ⟨hq4, ⟨es, h1.kept aQ (fun k hk => ?_), h2, h3⟩, q.up, q.di, q.hm⟩
    simp at hk; subst hk
    simp [ids] at hn
    exact ⟨fun e => hn.1 e, fun e => hn.2 e, by simp⟩
  have bR : (chainF W3 Q A mx r m k c).heap[A]? = _ := row4 ba4 (.int .i64 r) (.int .i64 m) (.int .i64 k) (.int .i64 c)
  have aA : Apart [A] (W3.setCell ⟨Q, 2, none⟩ (.int .i64 mx)) (chainF W3 Q A mx r m k c) := ((((Apart.refl _ _).setCell (by simp) _).setCell (by simp) _).setCell (by simp) _).setCell (by simp) _
  generalize chainF W3 Q A mx r m k c = X at *
  generalize W3.setCell ⟨Q, 2, none⟩ (.int .i64 mx) = W4 at *
  replace aA := aA.drewN 1
  refine ⟨bR, q4.kept aA (fun k hk => ?_), (aQ.mono (by simp)).trans (aA.mono (by simp))⟩
  simp at hk; subst hk
  obtain ⟨t1, ⟨c2, t2⟩, t3⟩ := q4.typ
  refine ⟨hne, fun e => ?_, fun e => ?_⟩
  · rw [e, t2] at ba4; simp at ba4
  · obtain ⟨c3, t4⟩ := t3 _ e; rw [t4] at ba4; simp at ba4
structure FireV (w w' : World) (r : Ending) (Q H : Nat) (v : Value) (row : List E) (n k : Nat) (nw : Int) : Prop where
  ex : r = .returned (.tuple #[.agg #[.int .i64 (g row k).r, .int .i64 (g row k).m, .int .i64 (g row k).k, .int .i64 (g row k).c], .bool true]) ∧ ∃ v', Qv w' Q H v' (row.eraseIdx k) n (max nw (g row k).r) ∧ Ch w w' Q H v v'
set_option maxHeartbeats 2000000 in
set_option maxRecDepth 100000 in
theorem fireV_some {w : World} {Q H : Nat} {v : Value} {row : List E} {n : Nat} {nw : Int} (q : Qv w Q H v row n nw) (k : Nat) (hk : k < row.length) :
    Calls Try.prog 18 #[.pointer (some ⟨Q, 0, none⟩), .int .i64 k] w fun r w' => FireV w w' r Q H v row n k nw := by
  have aV : Apart [] w (w.alloc (.cells #[.int .i64 0, .int .i64 0, .int .i64 0, .int .i64 0] 46)) := (Apart.refl _ _).alloc _
  have q1 := q.kept0 aV
  have hqs := lt_of_heap q.hq
  have c0 : w.cell? ⟨Q, 0, none⟩ = some (.pointer (some ⟨H, 0, none⟩)) := by rw [cell_of_row _ _ _ _ _ _ q.hq]; rfl
  have hT := v_take q1 k hk
  have bA : (w.alloc (.cells #[.int .i64 0, .int .i64 0, .int .i64 0, .int .i64 0] 46)).heap[w.heap.size]? = some (.cells #[.int .i64 0, .int .i64 0, .int .i64 0, .int .i64 0] 46 (0, 0)) := heap_alloc_new w _
  have hnA : w.heap.size ∉ ids H v := by
    intro m
    obtain ⟨_, ⟨c2, t2⟩, t3⟩ := q.typ
    simp [ids] at m
    rcases m with m | m
    · have := lt_of_heap t2; omega
    · obtain ⟨c3, t4⟩ := t3 _ m; have := lt_of_heap t4; omega
  have HAV := hid aV
  have HQ := hid q
  have HNA := hid hnA
  clear q q1 hk aV hnA
  go_enter Try.func18, Try.ntmps18
  go_wp2_with fail
  refine hT.mono ?_
  rintro r w2 ⟨rfl, v', q2, a2, nwo⟩
  dsimp only
  obtain ⟨e, He⟩ : ∃ e, Hid (g row k = e) := ⟨_, rfl⟩
  rw [He.out]
  have bA2 := (a2.block _ (lt_of_heap bA) HNA.out).trans bA
  have hs2 : w.heap.size < w2.heap.size := lt_of_heap bA2
  have hneQ : Q ≠ w.heap.size := by omega
  have hneQ' : w.heap.size ≠ Q := by omega
  have hneQ2 : w2.heap.size ≠ Q := by omega
  have hneQ3 : Q ≠ w2.heap.size := by omega
  have HQ2 := hid q2
  have HA2 := hid a2
  have HNW := hid nwo
  have BA2 := hid bA2
  clear hT q2 a2 nwo bA2 bA c0
  go_wp2_with fail
  have aD : Apart [] w2 (w2.alloc (.cells #[.int .i64 e.r, .int .i64 e.m, .int .i64 e.k, .int .i64 e.c] 46)) := (Apart.refl _ _).alloc _
  have bE : (w2.alloc (.cells #[.int .i64 e.r, .int .i64 e.m, .int .i64 e.k, .int .i64 e.c] 46)).heap[w2.heap.size]? = some (.cells #[.int .i64 e.r, .int .i64 e.m, .int .i64 e.k, .int .i64 e.c] 46 (0, 0)) := heap_alloc_new w2 _
  obtain ⟨W3, hW3⟩ : ∃ W3, w2.alloc (.cells #[.int .i64 e.r, .int .i64 e.m, .int .i64 e.k, .int .i64 e.c] 46) = W3 := ⟨_, rfl⟩
  rw [hW3] at aD bE ⊢
  clear hW3
  have q3 := HQ2.out.kept0 aD
  have HQ3 := hid q3
  have BA3 := hid ((aD.block _ hs2 (by simp)).trans BA2.out)
  have y2 : W3.cell? ⟨Q, 2, none⟩ = some (.int .i64 nw) := by rw [cell_of_row _ _ _ _ _ _ q3.hq]; rfl
  have g2 := frozen_of_row W3 Q 2 _ _ q3.hq
  clear q3
  have x0 : W3.cell? ⟨w.heap.size, 0, none⟩ = some (.int .i64 0) := by rw [cell_of_row _ _ _ _ _ _ BA3.out]; rfl
  have x1 : W3.cell? ⟨w.heap.size, 1, none⟩ = some (.int .i64 0) := by rw [cell_of_row _ _ _ _ _ _ BA3.out]; rfl
  have x2 : W3.cell? ⟨w.heap.size, 2, none⟩ = some (.int .i64 0) := by rw [cell_of_row _ _ _ _ _ _ BA3.out]; rfl
  have x3 : W3.cell? ⟨w.heap.size, 3, none⟩ = some (.int .i64 0) := by rw [cell_of_row _ _ _ _ _ _ BA3.out]; rfl
  have f0 := frozen_of_row W3 w.heap.size 0 _ _ BA3.out
  have f1 := frozen_of_row W3 w.heap.size 1 _ _ BA3.out
  have f2 := frozen_of_row W3 w.heap.size 2 _ _ BA3.out
  have f3 := frozen_of_row W3 w.heap.size 3 _ _ BA3.out
  obtain ⟨D, hD⟩ : ∃ D, w2.heap.size = D := ⟨_, rfl⟩
  rw [hD] at bE hneQ2 hneQ3 ⊢
  have hDA : D ≠ w.heap.size := by omega
  have hDA' : w.heap.size ≠ D := by omega
  have z0 : W3.cell? ⟨D, 0, none⟩ = some (.int .i64 e.r) := by rw [cell_of_row _ _ _ _ _ _ bE]; rfl
  have z1 : W3.cell? ⟨D, 1, none⟩ = some (.int .i64 e.m) := by rw [cell_of_row _ _ _ _ _ _ bE]; rfl
  have z2 : W3.cell? ⟨D, 2, none⟩ = some (.int .i64 e.k) := by rw [cell_of_row _ _ _ _ _ _ bE]; rfl
  have z3 : W3.cell? ⟨D, 3, none⟩ = some (.int .i64 e.c) := by rw [cell_of_row _ _ _ _ _ _ bE]; rfl
  have HAD := hid aD
  clear aD bE
  clear hs2 hD
  have FE : ∀ mx, Hid (FEndV W3 (chainF W3 Q w.heap.size mx e.r e.m e.k e.c).drew Q H w.heap.size n v' (row.eraseIdx k) mx e.r e.m e.k e.c) := fun mx =>
    fire_endV HQ3.out BA3.out
  have AE : ∀ X, Hid (Apart [Q, w.heap.size] W3 X → Ch w X Q H v v') := fun X a =>
    ⟨(((HAV.out.mono (by simp)).trans (HA2.out.mono (fun k hk => List.mem_cons_of_mem _ hk))).trans (HAD.out.mono (by simp))).trans' a (by simp), HNW.out.sub HAV.out.size⟩
  go_region
  go_wp2
  · have fe := (FE e.r).out
    change bodyPost _ _ _ _ _ (chainF W3 Q w.heap.size e.r e.r e.m e.k e.c).drew
    generalize (chainF W3 Q w.heap.size e.r e.r e.m e.k e.c).drew = X at *
    refine bodyPost_ret (results_ct rfl _ _ w.heap.size 46 (.int .i64 e.r) (.int .i64 e.m) (.int .i64 e.k) (.int .i64 e.c) (0, 0) rfl fe.bA) rfl ?_
    refine ⟨by rw [He.out]; rfl, v', ?_, (AE X).out fe.ap⟩
    rw [He.out, Int.max_eq_right (by omega)]; exact fe.qu
  · have fe := (FE nw).out
    change bodyPost _ _ _ _ _ (chainF W3 Q w.heap.size nw e.r e.m e.k e.c).drew
    generalize (chainF W3 Q w.heap.size nw e.r e.m e.k e.c).drew = X at *
    refine bodyPost_ret (results_ct rfl _ _ w.heap.size 46 (.int .i64 e.r) (.int .i64 e.m) (.int .i64 e.k) (.int .i64 e.c) (0, 0) rfl fe.bA) rfl ?_
    refine ⟨by rw [He.out]; rfl, v', ?_, (AE X).out fe.ap⟩
    rw [He.out, Int.max_eq_left h]; exact fe.qu
theorem newV_ok (w : World) : Calls Try.prog 15 #[] w fun r w' => r = .returned (.pointer (some ⟨w.heap.size + 1, 0, none⟩)) ∧ (∃ v, Qv w' (w.heap.size + 1) w.heap.size v [] 0 0 ∧ ∀ k, v.ownBlock = some k → w.heap.size ≤ k) ∧ Apart [] w w' := by
  refine (newQueue_ok w w (Nat.le_refl _)).mono ?_
  rintro r w' ⟨rfl, q, a⟩
  obtain ⟨es, o, p⟩ := q.hr.ex
  obtain ⟨v, h1, h2⟩ := o.ex
  exact ⟨rfl, ⟨v, ⟨q.hq, ⟨es, h1, o.hp, p⟩, q.hr.up, q.hr.di, by simp⟩, h2⟩, a⟩
end Go.Proofs.Ytopmhacnopfifaa.tm
