import Derived.Test.YtdggkofihppcmaaDoorLawsA
namespace Go.Proofs.YtdggkofihppcmaaDoor.ds
open Go.ChangeShapes Go.WideShapes Go.ChangeAt Go.RowKit
set_option linter.unusedVariables false
def m1 : S := ⟨7001, -1, 5⟩
def m2 : S := ⟨7002, -2, 5⟩
theorem mark1 (w : World) : Calls Tryd.prog 31 #[.int .i64 1] w fun r w' => r = .returned (.agg #[.int .i64 7001, .int .i64 (-1), .int .u64 5]) ∧ Apart [] w w' := by
  go_enter Tryd.func31, Tryd.ntmps31
  go_wp2
  refine bodyPost_ret (results_cell_row rfl _ _ w.heap.size 52 _ _ _ rfl (new1 w _ _) Tryd.underlying52 rfl size52) rfl ?_
  exact ⟨rfl, (Apart.refl _ _).alloc _⟩
theorem mark2 (w : World) : Calls Tryd.prog 31 #[.int .i64 2] w fun r w' => r = .returned (.agg #[.int .i64 7002, .int .i64 (-2), .int .u64 5]) ∧ Apart [] w w' := by
  go_enter Tryd.func31, Tryd.ntmps31
  go_wp2
  refine bodyPost_ret (results_cell_row rfl _ _ w.heap.size 52 _ _ _ rfl (new1 w _ _) Tryd.underlying52 rfl size52) rfl ?_
  exact ⟨rfl, (Apart.refl _ _).alloc _⟩
/-- two more, appended -/
theorem own_append2 {w W : World} {p : Option Addr} {n cap : Nat} {xs : List S} (h : Own w W p n cap xs) (hn : n ≤ 4398046511104) (ty : TypeId) (ad : Addr) (x y : S) (h0 : W.cell? (ad.add 0) = some (.int .i64 x.n)) (h1 : W.cell? (ad.add 1) = some (.int .i64 x.b)) (h2 : W.cell? (ad.add 2) = some (.int .u64 (x.t : Int))) (h3 : W.cell? (ad.add 3) = some (.int .i64 y.n)) (h4 : W.cell? (ad.add 4) = some (.int .i64 y.b)) (h5 : W.cell? (ad.add 5) = some (.int .u64 (y.t : Int))) :
    ∃ G cap' w', (Builtin.append_ #[22, 22] ty #[.slice p n cap, .slice (some ad) 2 2]).run Tryd.prog W = .ok (.slice (some ⟨G, 0, none⟩) (n + 2) cap') w' ∧ n + 2 ≤ cap' ∧ Own w w' (some ⟨G, 0, none⟩) (n + 2) cap' (xs ++ [x, y]) := by
  obtain ⟨i0, hi, hz0, hz1, hz2⟩ := info_parts info52
  obtain ⟨v', w', hrun, r1, r2, r3⟩ := run_append2 W 22 ty 52 i0 (.agg #[.int .i64 0, .int .i64 0, .int .u64 0]) 3 24 Tryd.underlying22 hi hz0 hz1 hz2 rfl (by decide) (.slice p n cap) n (flat xs) h.own ad 2 2 [.int .i64 x.n, .int .i64 x.b, .int .u64 (x.t : Int), .int .i64 y.n, .int .i64 y.b, .int .u64 (y.t : Int)] (by decide) rfl
    (by
      intro j u hj
      match j, hj with
      | 0, hj => simp at hj; subst hj; exact h0
      | 1, hj => simp at hj; subst hj; exact h1
      | 2, hj => simp at hj; subst hj; exact h2
      | 3, hj => simp at hj; subst hj; exact h3
      | 4, hj => simp at hj; subst hj; exact h4
      | 5, hj => simp at hj; subst hj; exact h5)
    (by intro u hu; simp at hu; rcases hu with rfl | rfl | rfl | rfl | rfl | rfl <;> rfl) (by unfold maxLen; omega) (by omega)
  have ef : flat xs ++ [.int .i64 x.n, .int .i64 x.b, .int .u64 (x.t : Int), .int .i64 y.n, .int .i64 y.b, .int .u64 (y.t : Int)] = flat (xs ++ [x, y]) := by simp [flat, ec]
  rw [ef] at r1
  have hs : ∃ G cap', v' = .slice (some ⟨G, 0, none⟩) (n + 2) cap' ∧ n + 2 ≤ cap' := by
    obtain ⟨_, ⟨_, hz⟩ | ⟨g, cap', cur, rfl, _, _, hle, _⟩⟩ := id r1
    · omega
    · exact ⟨_, _, rfl, hle⟩
  obtain ⟨G, cap', rfl, hcap⟩ := hs
  refine ⟨G, cap', w', hrun, hcap, by simp [h.len], r1, fun b hb => ?_, h.ap.trans' (apart_grown r2) (fun y hy => .inr (h.new y (by simpa using hy)))⟩
  rcases r3 with r3 | ⟨k, r3, hk⟩
  · exact h.new b (r3.symm.trans hb)
  · rw [r3] at hb; cases hb; exact Nat.le_trans h.ap.size hk
structure LentPost (w w' : World) (r : Ending) (N : Nat) (xs : List S) : Prop where
  ex : ∃ G cap, r = .returned (.slice (some ⟨G, 0, none⟩) (N + 2) cap) ∧ N + 2 ≤ cap ∧ L w' (some ⟨G, 0, none⟩) (N + 2) (xs ++ [m1, m2]) ∧ L w' (some ⟨G, 0, none⟩) N xs ∧ Apart [] w w'
theorem g_append {xs ys : List S} {i : Nat} (h : i < xs.length) : g (xs ++ ys) i = g xs i := by
  unfold g
  rw [List.getD_eq_getElem?_getD, List.getD_eq_getElem?_getD, List.getElem?_append_left h]
set_option maxHeartbeats 2000000 in
theorem lent_ok {p : Option Addr} {N cap : Nat} {xs : List S} {w : World} (h : L w p N xs) (hN : N ≤ 4398046511104) : Calls Tryd.prog 30 #[.slice p N cap] w fun r w' => LentPost w w' r N xs := by
  go_enter Tryd.func30, Tryd.ntmps30
  go_wp2_with fail
  refine (copied_ok h hN).mono ?_
  rintro r w1 ⟨⟨p1, c1, rfl, own1⟩⟩
  dsimp only
  go_wp2_with fail
  refine (mark1 w1).mono ?_
  rintro r w2 ⟨rfl, a2⟩
  dsimp only
  go_wp2_with fail
  refine (mark2 w2).mono ?_
  rintro r w3 ⟨rfl, a3⟩
  dsimp only
  have own3 := ((own1.kept a2).kept a3).kept ((Apart.refl [] w3).alloc (.cells #[.int .i64 7001, .int .i64 (-1), .int .u64 5, .int .i64 7002, .int .i64 (-2), .int .u64 5] 52))
  obtain ⟨G, cap', w4, hrun, hcap, own4⟩ := own_append2 own3 hN 22 ⟨w3.heap.size, 0, none⟩ m1 m2 (by simp [Addr.add, m1]) (by simp [Addr.add, m1]) (by simp [Addr.add, m1]) (by simp [Addr.add, m2]) (by simp [Addr.add, m2]) (by simp [Addr.add, m2])
  clear own3 own1
  go_wp2_with (at_builtin; refine wpList_append3 rfl (.tmp 4) (.tmp 7) 22 rfl _ _ rfl rfl _ _ hrun ?_)
  go_ret
  have l4 := own4.L (by omega) (fun x hx => by
    simp only [List.mem_append, List.mem_cons, List.not_mem_nil, or_false] at hx
    rcases hx with hx | rfl | rfl
    · exact h.fit x hx
    · decide
    · decide)
  refine ⟨G, cap', rfl, hcap, l4, ⟨fun h0 => ?_, h.len, h.lim, h.fit⟩, own4.ap⟩
  obtain ⟨P, o, e, hP, hc⟩ := l4.sp (by simp)
  simp only [Option.some.injEq, Addr.mk.injEq, and_true] at e
  obtain ⟨rfl, rfl⟩ := e
  refine ⟨G, 0, rfl, hP, fun i hi => ?_⟩
  have := hc i (by simp; omega)
  rwa [g_append hi] at this
end Go.Proofs.YtdggkofihppcmaaDoor.ds
