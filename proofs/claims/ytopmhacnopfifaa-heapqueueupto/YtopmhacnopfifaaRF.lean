import Derived.Test.YtopmhacnopfifaaRC
import Derived.Test.YtopmhacnopfifaaRL
namespace Go.Proofs.Ytopmhacnopfifaa.tm
open Go.ChangeShapes Go.WideShapes Go.ChangeAt Go.RowKit
set_option linter.unusedVariables false
set_option linter.unusedSimpArgs false
theorem Rq.kept {w w' : World} {R o : Nat} {cs : Array Value} {lv : Value} {L : List E} {n : Nat} {nw : Int} (h : Rq w R o cs lv L n nw) (a : Apart [] w w') : Rq w' R o cs lv L n nw :=
  ⟨(a.block R (lt_of_heap h.hR) (by simp)).trans h.hR, h.h0, h.h1, h.h2, own_apart h.own a (by simp), h.hl⟩
set_option maxHeartbeats 2000000 in
set_option maxRecDepth 100000 in
theorem rfire_none {w : World} {R o : Nat} {cs : Array Value} {lv : Value} {L : List E} {n : Nat} {nw : Int} (h : Rq w R o cs lv L n nw) (inc : Inc L) (row : List E) (p : L.Perm row) (up : Up row) (di : Dist row) (k : Int) (hk : k < 0 ∨ (row.length : Int) ≤ k) :
    Calls Try.prog 52 #[.pointer (some ⟨R, o, none⟩), .int .i64 k] w fun r w' => r = .returned (.tuple #[.agg #[.int .i64 0, .int .i64 0, .int .i64 0, .int .i64 0], .bool false]) ∧ Apart [] w w' := by
  have aV : Apart [] w (w.alloc (.cells #[.int .i64 0, .int .i64 0, .int .i64 0, .int .i64 0] 46)) := (Apart.refl _ _).alloc _
  obtain ⟨N, hN⟩ : ∃ N, row.length = N := ⟨_, rfl⟩
  have hLi := rlist_ok (h.kept aV) inc row p up di N hN
  have bA : (w.alloc (.cells #[.int .i64 0, .int .i64 0, .int .i64 0, .int .i64 0] 46)).heap[w.heap.size]? = some (.cells #[.int .i64 0, .int .i64 0, .int .i64 0, .int .i64 0] 46 (0, 0)) := heap_alloc_new w _
  rw [hN] at hk
  have HAV := hid aV
  clear h inc p up di aV hN
  go_enter Try.func52, Try.ntmps52
  go_wp2_with fail
  refine hLi.mono ?_
  rintro r w2 ⟨q, c, rfl, own2, a2⟩
  dsimp only
  have bA2 := (a2.block _ (lt_of_heap bA) (by simp)).trans bA
  have hs2 : w.heap.size < w2.heap.size := lt_of_heap bA2
  have x0 : w2.cell? ⟨w.heap.size, 0, none⟩ = some (.int .i64 0) := by rw [cell_of_row _ _ _ _ _ _ bA2]; rfl
  have x1 : w2.cell? ⟨w.heap.size, 1, none⟩ = some (.int .i64 0) := by rw [cell_of_row _ _ _ _ _ _ bA2]; rfl
  have x2 : w2.cell? ⟨w.heap.size, 2, none⟩ = some (.int .i64 0) := by rw [cell_of_row _ _ _ _ _ _ bA2]; rfl
  have x3 : w2.cell? ⟨w.heap.size, 3, none⟩ = some (.int .i64 0) := by rw [cell_of_row _ _ _ _ _ _ bA2]; rfl
  have f0 := frozen_of_row w2 w.heap.size 0 _ _ bA2
  have f1 := frozen_of_row w2 w.heap.size 1 _ _ bA2
  have f2 := frozen_of_row w2 w.heap.size 2 _ _ bA2
  have f3 := frozen_of_row w2 w.heap.size 3 _ _ bA2
  have bR := row4 bA2 (.int .i64 0) (.int .i64 0) (.int .i64 0) (.int .i64 0)
  have post : Hid (Apart [] w ((((w2.setCell ⟨w.heap.size, 0, none⟩ (.int .i64 0)).setCell ⟨w.heap.size, 1, none⟩ (.int .i64 0)).setCell ⟨w.heap.size, 2, none⟩ (.int .i64 0)).setCell ⟨w.heap.size, 3, none⟩ (.int .i64 0))) :=
    ((HAV.out.trans a2).trans' (((((Apart.refl [w.heap.size] _).setCell (by simp) _).setCell (by simp) _).setCell (by simp) _).setCell (by simp) _) (by simp))
  clear bA bA2 hLi a2 own2
  by_cases hk0 : k < 0
  · clear hk
    go_wp2
    refine bodyPost_ret (results_ct rfl _ _ w.heap.size 46 (.int .i64 0) (.int .i64 0) (.int .i64 0) (.int .i64 0) (0, 0) rfl bR) rfl ?_
    exact ⟨rfl, post.out⟩
  · have hk1 : (N : Int) ≤ k := by omega
    clear hk
    go_wp2
    refine bodyPost_ret (results_ct rfl _ _ w.heap.size 46 (.int .i64 0) (.int .i64 0) (.int .i64 0) (.int .i64 0) (0, 0) rfl bR) rfl ?_
    exact ⟨rfl, post.out⟩
structure RFire (w w' : World) (r : Ending) (R o : Nat) (cs : Array Value) (lv : Value) (L row : List E) (n k : Nat) (nw : Int) : Prop where
  ex : r = .returned (.tuple #[.agg #[.int .i64 (g row k).r, .int .i64 (g row k).m, .int .i64 (g row k).k, .int .i64 (g row k).c], .bool true]) ∧ ∃ lv', Rq w' R o ((cs.setIfInBounds o lv').setIfInBounds (o + 2) (.int .i64 (max nw (g row k).r))) lv' (cutN (g row k).m L) n (max nw (g row k).r) ∧ Apart [R] w w' ∧ NewB w lv lv'
def chainR (W : World) (R o A : Nat) (mx r m k c : Int) : World := ((((W.setCell ⟨R, o + 2, none⟩ (.int .i64 mx)).setCell ⟨A, 0, none⟩ (.int .i64 r)).setCell ⟨A, 1, none⟩ (.int .i64 m)).setCell ⟨A, 2, none⟩ (.int .i64 k)).setCell ⟨A, 3, none⟩ (.int .i64 c)
structure FEndR (W X : World) (R o A : Nat) (cs : Array Value) (lv : Value) (L : List E) (n : Nat) (mx r m k c : Int) : Prop where
  bA : X.heap[A]? = some (.cells #[.int .i64 r, .int .i64 m, .int .i64 k, .int .i64 c] 46 (0, 0))
  rq : Rq X R o (cs.setIfInBounds (o + 2) (.int .i64 mx)) lv L n mx
  ap : Apart [R, A] W X
theorem fire_endR {W : World} {R o A n : Nat} {cs : Array Value} {lv : Value} {L : List E} {nw mx r m k c : Int} {z0 z1 z2 z3 : Value} (q : Rq W R o cs lv L n nw) (ba : W.heap[A]? = some (.cells #[z0, z1, z2, z3] 46 (0, 0))) (hA : lv.ownBlock ≠ some A) :
    FEndR W (chainR W R o A mx r m k c).drew R o A cs lv L n mx r m k c := by
  have hne : A ≠ R := fun e => by rw [e, q.hR] at ba; simp at ba
  have o2s : o + 2 < cs.size := (Array.getElem?_eq_some_iff.1 q.h2).1
  have aQ : Apart [R] W (W.setCell ⟨R, o + 2, none⟩ (.int .i64 mx)) := (Apart.refl _ _).setCell (by simp) _
  have hq4 : (W.setCell ⟨R, o + 2, none⟩ (.int .i64 mx)).heap[R]? = some (.cells (cs.setIfInBounds (o + 2) (.int .i64 mx)) 56 (0, 0)) := heap_setCell_same _ _ _ _ _ _ q.hR
  have ba4 := (aQ.block A (lt_of_heap ba) (by simpa using hne)).trans ba
  have own4 := own_apart q.own aQ (fun k hk m => q.ne (by simp at m; rw [← m]; exact hk))
  have bR : (chainR W R o A mx r m k c).heap[A]? = _ := row4 ba4 (.int .i64 r) (.int .i64 m) (.int .i64 k) (.int .i64 c)
  have aA : Apart [A] (W.setCell ⟨R, o + 2, none⟩ (.int .i64 mx)) (chainR W R o A mx r m k c) := ((((Apart.refl _ _).setCell (by simp) _).setCell (by simp) _).setCell (by simp) _).setCell (by simp) _
  generalize chainR W R o A mx r m k c = X at *
  generalize W.setCell ⟨R, o + 2, none⟩ (.int .i64 mx) = W4 at *
  replace aA := aA.drewN 1
  refine ⟨bR, ⟨(aA.block R (lt_of_heap hq4) (by simp; exact fun e => hne e.symm)).trans hq4, ?_, ?_, Array.getElem?_setIfInBounds_self_of_lt o2s, own_apart own4 aA (fun k hk m => hA (by simp at m; rw [← m]; exact hk)), q.hl⟩, (aQ.mono (by simp)).trans (aA.mono (by simp))⟩
  · rw [Array.getElem?_setIfInBounds_ne (by omega)]; exact q.h0
  · rw [Array.getElem?_setIfInBounds_ne (by omega)]; exact q.h1
set_option maxHeartbeats 2000000 in
set_option maxRecDepth 100000 in
theorem rfire_some {w : World} {R o : Nat} {cs : Array Value} {lv : Value} {L : List E} {n : Nat} {nw : Int} (h : Rq w R o cs lv L n nw) (inc : Inc L) (row : List E) (p : L.Perm row) (up : Up row) (di : Dist row) (k : Nat) (hk : k < row.length) :
    Calls Try.prog 52 #[.pointer (some ⟨R, o, none⟩), .int .i64 k] w fun r w' => RFire w w' r R o cs lv L row n k nw := by
  have aV : Apart [] w (w.alloc (.cells #[.int .i64 0, .int .i64 0, .int .i64 0, .int .i64 0] 46)) := (Apart.refl _ _).alloc _
  obtain ⟨N, hN⟩ : ∃ N, row.length = N := ⟨_, rfl⟩
  have hN12 : N ≤ 1200000 := by rw [← hN, ← p.length_eq]; exact h.hl
  have hLi := rlist_ok (h.kept aV) inc row p up di N hN
  have bA : (w.alloc (.cells #[.int .i64 0, .int .i64 0, .int .i64 0, .int .i64 0] 46)).heap[w.heap.size]? = some (.cells #[.int .i64 0, .int .i64 0, .int .i64 0, .int .i64 0] 46 (0, 0)) := heap_alloc_new w _
  have hRs := lt_of_heap h.hR
  rw [hN] at hk
  have HAV := hid aV
  have HRQ := hid h
  have HN := hid hN
  clear h inc p up di aV hN
  go_enter Try.func52, Try.ntmps52
  go_wp2_with fail
  refine hLi.mono ?_
  rintro r w2 ⟨q, c, rfl, own2, a2⟩
  dsimp only
  obtain ⟨G, rfl⟩ : ∃ G, q = some ⟨G, 0, none⟩ := by
    rcases own_shape2 own2 with ⟨_, hz⟩ | ⟨g', c', hv, _⟩
    · omega
    · simp at hv; exact ⟨g', hv.1⟩
  obtain ⟨g0, g1, g2, g3⟩ := own4_get (own_base own2 (Nat.zero_le _)) HN.out rfl k hk
  obtain ⟨e, He⟩ : ∃ e, Hid (g row k = e) := ⟨_, rfl⟩
  rw [He.out] at g0 g1 g2 g3
  have bA2 := (a2.block _ (lt_of_heap bA) (by simp)).trans bA
  have hs2 : w.heap.size < w2.heap.size := lt_of_heap bA2
  have BA2 := hid bA2
  have HA2 := hid a2
  clear bA bA2 hLi a2 own2
  have hC := rcancel_ok (HRQ.out.kept ((HAV.out.trans HA2.out).trans ((Apart.refl [] w2).alloc (.cells #[.int .i64 e.r, .int .i64 e.m, .int .i64 e.k, .int .i64 e.c] 46)))) e.m
  go_wp2_with fail
  refine hC.mono ?_
  rintro r w4 ⟨rfl, lv', rq4, a4, nb4⟩
  dsimp only
  obtain ⟨A, hA⟩ : ∃ A, w.heap.size = A := ⟨_, rfl⟩
  obtain ⟨D, hD⟩ : ∃ D, w2.heap.size = D := ⟨_, rfl⟩
  have bE0 : (w2.alloc (.cells #[.int .i64 e.r, .int .i64 e.m, .int .i64 e.k, .int .i64 e.c] 46)).heap[w2.heap.size]? = some (.cells #[.int .i64 e.r, .int .i64 e.m, .int .i64 e.k, .int .i64 e.c] 46 (0, 0)) := heap_alloc_new w2 _
  have hDR : D ≠ R := by omega
  have hAR : A ≠ R := by omega
  have hDA : D ≠ A := by omega
  have bE := (a4.block _ (lt_of_heap bE0) (by rw [hD]; simpa using hDR)).trans bE0
  have bA3 := (((Apart.refl [] w2).alloc (.cells #[.int .i64 e.r, .int .i64 e.m, .int .i64 e.k, .int .i64 e.c] 46)).block _ hs2 (by simp)).trans BA2.out
  have bA4 := (a4.block _ (lt_of_heap bA3) (by rw [hA]; simpa using hAR)).trans bA3
  rw [hD] at bE
  rw [hA] at bA4 ⊢
  rw [hD]
  have hlA : lv'.ownBlock ≠ some A := fun e1 => by
    rcases nb4 A e1 with h1 | h1
    · obtain ⟨cur, h2⟩ := own_typ HRQ.out.own h1
      have := lt_of_heap h2; omega
    · simp at h1; omega
  have HRQ4 := hid rq4
  have HA4 := hid a4
  have HNB : Hid (NewB w lv lv') := fun k hk => by
    rcases nb4 k hk with h1 | h1
    · exact .inl h1
    · right; simp at h1; omega
  have c2 : w4.cell? ⟨R, o + 2, none⟩ = some (.int .i64 nw) := by rw [cell_of_row _ _ _ _ _ _ rq4.hR]; exact rq4.h2
  have fr2 := frozen_of_row w4 R (o + 2) _ _ rq4.hR
  have x0 : w4.cell? ⟨A, 0, none⟩ = some (.int .i64 0) := by rw [cell_of_row _ _ _ _ _ _ bA4]; rfl
  have x1 : w4.cell? ⟨A, 1, none⟩ = some (.int .i64 0) := by rw [cell_of_row _ _ _ _ _ _ bA4]; rfl
  have x2 : w4.cell? ⟨A, 2, none⟩ = some (.int .i64 0) := by rw [cell_of_row _ _ _ _ _ _ bA4]; rfl
  have x3 : w4.cell? ⟨A, 3, none⟩ = some (.int .i64 0) := by rw [cell_of_row _ _ _ _ _ _ bA4]; rfl
  have f0 := frozen_of_row w4 A 0 _ _ bA4
  have f1 := frozen_of_row w4 A 1 _ _ bA4
  have f2 := frozen_of_row w4 A 2 _ _ bA4
  have f3 := frozen_of_row w4 A 3 _ _ bA4
  have z0 : w4.cell? ⟨D, 0, none⟩ = some (.int .i64 e.r) := by rw [cell_of_row _ _ _ _ _ _ bE]; rfl
  have z1 : w4.cell? ⟨D, 1, none⟩ = some (.int .i64 e.m) := by rw [cell_of_row _ _ _ _ _ _ bE]; rfl
  have z2 : w4.cell? ⟨D, 2, none⟩ = some (.int .i64 e.k) := by rw [cell_of_row _ _ _ _ _ _ bE]; rfl
  have z3 : w4.cell? ⟨D, 3, none⟩ = some (.int .i64 e.c) := by rw [cell_of_row _ _ _ _ _ _ bE]; rfl
  have hRD : R ≠ D := fun h => hDR h.symm
  have hRA : R ≠ A := fun h => hAR h.symm
  have hAD : A ≠ D := fun h => hDA h.symm
  have FE : ∀ mx, Hid (FEndR w4 (chainR w4 R o A mx e.r e.m e.k e.c).drew R o A (cs.setIfInBounds o lv') lv' (cutN e.m L) n mx e.r e.m e.k e.c) := fun mx => fire_endR HRQ4.out bA4 hlA
  have AE : ∀ X, Hid (Apart [R, A] w4 X → Apart [R] w X) := fun X a => by
    have h1 : Apart [R] w w4 := ((((HAV.out.trans HA2.out).trans ((Apart.refl [] w2).alloc (.cells #[.int .i64 e.r, .int .i64 e.m, .int .i64 e.k, .int .i64 e.c] 46))).mono (by simp)).trans HA4.out)
    refine h1.trans' a (fun y hy => ?_)
    simp at hy ⊢
    rcases hy with rfl | rfl
    · exact .inl rfl
    · exact .inr (by omega)
  clear rq4 a4 nb4 bE0 bE bA3 bA4 hs2 hC g0 g1 g2 g3 hlA
  go_wp2_with fail
  go_region
  go_wp2
  · have fe := (FE e.r).out
    change bodyPost _ _ _ _ _ (chainR w4 R o A e.r e.r e.m e.k e.c).drew
    generalize (chainR w4 R o A e.r e.r e.m e.k e.c).drew = X at *
    refine bodyPost_ret (results_ct rfl _ _ A 46 (.int .i64 e.r) (.int .i64 e.m) (.int .i64 e.k) (.int .i64 e.c) (0, 0) rfl fe.bA) rfl ?_
    refine ⟨by rw [He.out]; rfl, lv', ?_, (AE X).out fe.ap, HNB.out⟩
    rw [He.out, Int.max_eq_right (by omega)]; exact fe.rq
  · have fe := (FE nw).out
    change bodyPost _ _ _ _ _ (chainR w4 R o A nw e.r e.m e.k e.c).drew
    generalize (chainR w4 R o A nw e.r e.m e.k e.c).drew = X at *
    refine bodyPost_ret (results_ct rfl _ _ A 46 (.int .i64 e.r) (.int .i64 e.m) (.int .i64 e.k) (.int .i64 e.c) (0, 0) rfl fe.bA) rfl ?_
    refine ⟨by rw [He.out]; rfl, lv', ?_, (AE X).out fe.ap, HNB.out⟩
    rw [He.out, Int.max_eq_left (by omega)]; exact fe.rq
end Go.Proofs.Ytopmhacnopfifaa.tm
