import Derived.Test.YtddffdcjhleejaaGreatG19
namespace Go.Proofs.YtddffdcjhleejaaGreat.ds
open Go.ChangeShapes Go.WideShapes Go.ChangeAt Go.RowKit Go.Sort
set_option linter.unusedVariables false
set_option linter.unusedSimpArgs false
theorem RM.eq {w : World} {m1 m2 : MM} {g1 g2 : Mg} {es fs : List E} (h1 : RM w m1 g1 es) (h2 : RM w m2 g2 fs) : g1 = g2 ↔ (m1.kind = m2.kind ∧ m1.frm = m2.frm ∧ m1.dst = m2.dst ∧ m1.call = m2.call ∧ m1.rng = m2.rng ∧ m1.own = m2.own ∧ m1.key = m2.key) ∧ m1.dn = m2.dn ∧ m1.dc = m2.dc ∧ g1.set = g2.set ∧ g1.ws = g2.ws := by
  rw [h1.kind, h1.frm, h1.dst, h1.call, h1.rng, h1.own, h1.key, h1.dn, h1.dc, h2.kind, h2.frm, h2.dst, h2.call, h2.rng, h2.own, h2.key, h2.dn, h2.dc, strB_inj h1.k8 h2.k8]
  cases g1
  cases g2
  simp only [Mg.mk.injEq]
  constructor
  · rintro ⟨a, b, c, d, e, f, g, h, i, j, k⟩; exact ⟨⟨a, b, c, d, e, f, g⟩, h, i, j, k⟩
  · rintro ⟨⟨a, b, c, d, e, f, g⟩, h, i, j, k⟩; exact ⟨a, b, c, d, e, f, g, h, i, j, k⟩
set_option maxHeartbeats 16000000 in
set_option maxRecDepth 100000 in
theorem sameMsg_ok {w : World} (m1 m2 : MM) (g1 g2 : Mg) (es fs : List E) (h1 : RM w m1 g1 es) (h2 : RM w m2 g2 fs) (v : Bool) (hv : v = true ↔ g1 = g2) : Calls Tryz.prog 20 #[.agg m1.cs, .agg m2.cs] w fun r w' => r = .returned (.bool v) ∧ Apart [] w w' := by
  rw [h1.eq h2] at hv
  obtain ⟨bs, hbs⟩ := bool_of' (g1.set = g2.set)
  obtain ⟨bw, hbw⟩ := bool_of' (g1.ws = g2.ws)
  rw [← hbs, ← hbw] at hv
  have HCs : Hid (∀ W, Apart [] w W → Calls Tryz.prog 23 #[.slice m1.set.p m1.set.n m1.set.c, .slice m2.set.p m2.set.n m2.set.c] W fun r w' => r = .returned (.bool bs) ∧ Apart [] W w') := fun W a => sameSet_ok (h1.set.kept0 a) (h2.set.kept0 a) bs hbs
  have HCw : Hid (∀ W, Apart [] w W → Calls Tryz.prog 51 #[.slice m1.ws.p m1.ws.n m1.ws.c, .slice m2.ws.p m2.ws.n m2.ws.c] W fun r w' => r = .returned (.bool bw) ∧ Apart [] W w') := fun W a => sameWrites_ok (h1.ws.kept0 a) (h2.ws.kept0 a) bw hbw
  clear h1 h2 hbs hbw
  obtain ⟨a0, a1, a2, a3, a4, a5, a6, a7, a8, sa, wa⟩ := m1
  obtain ⟨b0, b1, b2, b3, b4, b5, b6, b7, b8, sb, wb⟩ := m2
  simp only at hv HCs HCw
  have HV := hid hv
  clear hv
  unfold MM.cs
  simp only
  by_cases e0 : a0 = b0
  · subst e0
    by_cases e1 : a1 = b1
    · subst e1
      by_cases e2 : a2 = b2
      · subst e2
        by_cases e3 : a3 = b3
        · subst e3
          by_cases e4 : a4 = b4
          · subst e4
            by_cases e5 : a5 = b5
            · subst e5
              by_cases e6 : a6 = b6
              · subst e6
                by_cases e7 : a7 = b7
                · subst e7
                  by_cases e8 : a8 = b8
                  · subst e8
                    obtain ⟨w1, hw1⟩ : ∃ w1, w1 = w.alloc (.cells #[.int .i64 (a0 : Nat), .int .i64 (a1 : Nat), .int .i64 (a2 : Nat), .int .i64 (a3 : Nat), .int .i64 (a4 : Nat), .int .i64 (a5 : Nat), .string a6, .int .i64 (a7 : Nat), .int .i64 (a8 : Nat), .slice sa.p sa.n sa.c, .slice wa.p wa.n wa.c] 29) := ⟨_, rfl⟩
                    obtain ⟨w2, hw2⟩ : ∃ w2, w2 = w1.alloc (.cells #[.int .i64 (a0 : Nat), .int .i64 (a1 : Nat), .int .i64 (a2 : Nat), .int .i64 (a3 : Nat), .int .i64 (a4 : Nat), .int .i64 (a5 : Nat), .string a6, .int .i64 (a7 : Nat), .int .i64 (a8 : Nat), .slice sb.p sb.n sb.c, .slice wb.p wb.n wb.c] 29) := ⟨_, rfl⟩
                    obtain ⟨X, HXX⟩ : ∃ X, Hid (X = w.heap.size) := ⟨_, rfl⟩
                    obtain ⟨Y, HYY⟩ : ∃ Y, Hid (Y = w.heap.size + 1) := ⟨_, rfl⟩
                    have HA2 : Hid (Apart [] w w2) := by unfold Hid; rw [hw2, hw1]; exact ((Apart.refl [] w).alloc _).alloc _
                    have HX2 : Hid (w2.heap[X]? = some (.cells (MM.cs ⟨a0, a1, a2, a3, a4, a5, a6, a7, a8, sa, wa⟩) 29 (0, 0))) := by unfold Hid; rw [HXX.out, hw2, hw1]; exact (((Apart.refl [] _).alloc _).block _ (by simp) (by simp)).trans (heap_alloc_new w _)
                    have HY2 : Hid (w2.heap[Y]? = some (.cells (MM.cs ⟨a0, a1, a2, a3, a4, a5, a6, a7, a8, sb, wb⟩) 29 (0, 0))) := by
                      have := heap_alloc_new w1 (.cells #[.int .i64 (a0 : Nat), .int .i64 (a1 : Nat), .int .i64 (a2 : Nat), .int .i64 (a3 : Nat), .int .i64 (a4 : Nat), .int .i64 (a5 : Nat), .string a6, .int .i64 (a7 : Nat), .int .i64 (a8 : Nat), .slice sb.p sb.n sb.c, .slice wb.p wb.n wb.c] 29)
                      rw [← hw2] at this
                      unfold Hid
                      rw [HYY.out]
                      rw [hw1] at this
                      simpa [MM.cs] using this
                    obtain ⟨⟨z0, z1, z2, z3, z4, z5⟩, z6, z7, z8, z9, z10⟩ := mrow11 HX2.out
                    obtain ⟨⟨y0, y1, y2, y3, y4, y5⟩, y6, y7, y8, y9, y10⟩ := mrow11 HY2.out
                    simp only at z0 z1 z2 z3 z4 z5 z6 z7 z8 z9 z10 y0 y1 y2 y3 y4 y5 y6 y7 y8 y9 y10
                    go_enter Tryz.func20, Tryz.ntmps20
                    go_upto_region 1 with fail
                    rw [← hw1, ← hw2, ← HYY.out, ← HXX.out]
                    clear hw1 hw2
                    go_wp2_with fail
                    refine (HCs.out w2 HA2.out).mono ?_
                    rintro _ w3 ⟨rfl, ha3⟩
                    have HA3 : Hid (Apart [] w w3) := HA2.out.trans ha3
                    have HX3 := hid ((ha3.block _ (lt_of_heap HX2.out) (by simp)).trans HX2.out)
                    have HY3 := hid ((ha3.block _ (lt_of_heap HY2.out) (by simp)).trans HY2.out)
                    clear ha3 z0 z1 z2 z3 z4 z5 z6 z7 z8 z9 z10 y0 y1 y2 y3 y4 y5 y6 y7 y8 y9 y10
                    obtain ⟨⟨z0, z1, z2, z3, z4, z5⟩, z6, z7, z8, z9, z10⟩ := mrow11 HX3.out
                    obtain ⟨⟨y0, y1, y2, y3, y4, y5⟩, y6, y7, y8, y9, y10⟩ := mrow11 HY3.out
                    simp only at z0 z1 z2 z3 z4 z5 z6 z7 z8 z9 z10 y0 y1 y2 y3 y4 y5 y6 y7 y8 y9 y10
                    try dsimp only
                    cases bs with
                    | false =>
                      have Hvv : Hid (v = false) := bool_f' HV.out (by simp)
                      go_wp2_with fail
                      go_ret
                      exact ⟨by rw [Hvv.out]; rfl, HA3.out⟩
                    | true =>
                      have Hvv : Hid (v = bw) := by unfold Hid; rw [Bool.eq_iff_iff, HV.out]; simp
                      go_wp2_with fail
                      refine (HCw.out w3 HA3.out).mono ?_
                      rintro _ w4 ⟨rfl, ha4⟩
                      have HA4 : Hid (Apart [] w w4) := HA3.out.trans ha4
                      clear ha4 z0 z1 z2 z3 z4 z5 z6 z7 z8 z9 z10 y0 y1 y2 y3 y4 y5 y6 y7 y8 y9 y10
                      try dsimp only
                      go_wp2_with fail
                      go_ret
                      exact ⟨by rw [Hvv.out]; rfl, HA4.out⟩
                  · have ei : ¬ ((a8 : Nat) : Int) = (b8 : Int) := by omega
                    have Hvv : Hid (v = false) := bool_f' HV.out (fun h => e8 (h).2.2.1)
                    obtain ⟨w1, hw1⟩ : ∃ w1, w1 = w.alloc (.cells #[.int .i64 (a0 : Nat), .int .i64 (a1 : Nat), .int .i64 (a2 : Nat), .int .i64 (a3 : Nat), .int .i64 (a4 : Nat), .int .i64 (a5 : Nat), .string a6, .int .i64 (a7 : Nat), .int .i64 (a8 : Nat), .slice sa.p sa.n sa.c, .slice wa.p wa.n wa.c] 29) := ⟨_, rfl⟩
                    obtain ⟨w2, hw2⟩ : ∃ w2, w2 = w1.alloc (.cells #[.int .i64 (a0 : Nat), .int .i64 (a1 : Nat), .int .i64 (a2 : Nat), .int .i64 (a3 : Nat), .int .i64 (a4 : Nat), .int .i64 (a5 : Nat), .string a6, .int .i64 (a7 : Nat), .int .i64 (b8 : Nat), .slice sb.p sb.n sb.c, .slice wb.p wb.n wb.c] 29) := ⟨_, rfl⟩
                    obtain ⟨X, HXX⟩ : ∃ X, Hid (X = w.heap.size) := ⟨_, rfl⟩
                    obtain ⟨Y, HYY⟩ : ∃ Y, Hid (Y = w.heap.size + 1) := ⟨_, rfl⟩
                    have HA2 : Hid (Apart [] w w2) := by unfold Hid; rw [hw2, hw1]; exact ((Apart.refl [] w).alloc _).alloc _
                    have HX2 : Hid (w2.heap[X]? = some (.cells (MM.cs ⟨a0, a1, a2, a3, a4, a5, a6, a7, a8, sa, wa⟩) 29 (0, 0))) := by unfold Hid; rw [HXX.out, hw2, hw1]; exact (((Apart.refl [] _).alloc _).block _ (by simp) (by simp)).trans (heap_alloc_new w _)
                    have HY2 : Hid (w2.heap[Y]? = some (.cells (MM.cs ⟨a0, a1, a2, a3, a4, a5, a6, a7, b8, sb, wb⟩) 29 (0, 0))) := by
                      have := heap_alloc_new w1 (.cells #[.int .i64 (a0 : Nat), .int .i64 (a1 : Nat), .int .i64 (a2 : Nat), .int .i64 (a3 : Nat), .int .i64 (a4 : Nat), .int .i64 (a5 : Nat), .string a6, .int .i64 (a7 : Nat), .int .i64 (b8 : Nat), .slice sb.p sb.n sb.c, .slice wb.p wb.n wb.c] 29)
                      rw [← hw2] at this
                      unfold Hid
                      rw [HYY.out]
                      rw [hw1] at this
                      simpa [MM.cs] using this
                    obtain ⟨⟨z0, z1, z2, z3, z4, z5⟩, z6, z7, z8, z9, z10⟩ := mrow11 HX2.out
                    obtain ⟨⟨y0, y1, y2, y3, y4, y5⟩, y6, y7, y8, y9, y10⟩ := mrow11 HY2.out
                    simp only at z0 z1 z2 z3 z4 z5 z6 z7 z8 z9 z10 y0 y1 y2 y3 y4 y5 y6 y7 y8 y9 y10
                    go_enter Tryz.func20, Tryz.ntmps20
                    go_upto_region 1 with fail
                    rw [← hw1, ← hw2, ← HYY.out, ← HXX.out]
                    clear hw1 hw2
                    go_wp2_with fail
                    go_ret
                    exact ⟨by rw [Hvv.out]; rfl, HA2.out⟩
                · have ei : ¬ ((a7 : Nat) : Int) = (b7 : Int) := by omega
                  have Hvv : Hid (v = false) := bool_f' HV.out (fun h => e7 (h).2.1)
                  obtain ⟨w1, hw1⟩ : ∃ w1, w1 = w.alloc (.cells #[.int .i64 (a0 : Nat), .int .i64 (a1 : Nat), .int .i64 (a2 : Nat), .int .i64 (a3 : Nat), .int .i64 (a4 : Nat), .int .i64 (a5 : Nat), .string a6, .int .i64 (a7 : Nat), .int .i64 (a8 : Nat), .slice sa.p sa.n sa.c, .slice wa.p wa.n wa.c] 29) := ⟨_, rfl⟩
                  obtain ⟨w2, hw2⟩ : ∃ w2, w2 = w1.alloc (.cells #[.int .i64 (a0 : Nat), .int .i64 (a1 : Nat), .int .i64 (a2 : Nat), .int .i64 (a3 : Nat), .int .i64 (a4 : Nat), .int .i64 (a5 : Nat), .string a6, .int .i64 (b7 : Nat), .int .i64 (b8 : Nat), .slice sb.p sb.n sb.c, .slice wb.p wb.n wb.c] 29) := ⟨_, rfl⟩
                  obtain ⟨X, HXX⟩ : ∃ X, Hid (X = w.heap.size) := ⟨_, rfl⟩
                  obtain ⟨Y, HYY⟩ : ∃ Y, Hid (Y = w.heap.size + 1) := ⟨_, rfl⟩
                  have HA2 : Hid (Apart [] w w2) := by unfold Hid; rw [hw2, hw1]; exact ((Apart.refl [] w).alloc _).alloc _
                  have HX2 : Hid (w2.heap[X]? = some (.cells (MM.cs ⟨a0, a1, a2, a3, a4, a5, a6, a7, a8, sa, wa⟩) 29 (0, 0))) := by unfold Hid; rw [HXX.out, hw2, hw1]; exact (((Apart.refl [] _).alloc _).block _ (by simp) (by simp)).trans (heap_alloc_new w _)
                  have HY2 : Hid (w2.heap[Y]? = some (.cells (MM.cs ⟨a0, a1, a2, a3, a4, a5, a6, b7, b8, sb, wb⟩) 29 (0, 0))) := by
                    have := heap_alloc_new w1 (.cells #[.int .i64 (a0 : Nat), .int .i64 (a1 : Nat), .int .i64 (a2 : Nat), .int .i64 (a3 : Nat), .int .i64 (a4 : Nat), .int .i64 (a5 : Nat), .string a6, .int .i64 (b7 : Nat), .int .i64 (b8 : Nat), .slice sb.p sb.n sb.c, .slice wb.p wb.n wb.c] 29)
                    rw [← hw2] at this
                    unfold Hid
                    rw [HYY.out]
                    rw [hw1] at this
                    simpa [MM.cs] using this
                  obtain ⟨⟨z0, z1, z2, z3, z4, z5⟩, z6, z7, z8, z9, z10⟩ := mrow11 HX2.out
                  obtain ⟨⟨y0, y1, y2, y3, y4, y5⟩, y6, y7, y8, y9, y10⟩ := mrow11 HY2.out
                  simp only at z0 z1 z2 z3 z4 z5 z6 z7 z8 z9 z10 y0 y1 y2 y3 y4 y5 y6 y7 y8 y9 y10
                  go_enter Tryz.func20, Tryz.ntmps20
                  go_upto_region 1 with fail
                  rw [← hw1, ← hw2, ← HYY.out, ← HXX.out]
                  clear hw1 hw2
                  go_wp2_with fail
                  go_ret
                  exact ⟨by rw [Hvv.out]; rfl, HA2.out⟩
              · have eb : (a6.toList == b6.toList) = false := by rw [beq_eq_false_iff_ne]; exact fun h => e6 (toList_inj h)
                have Hvv : Hid (v = false) := bool_f' HV.out (fun h => e6 (h).1.2.2.2.2.2.2)
                obtain ⟨w1, hw1⟩ : ∃ w1, w1 = w.alloc (.cells #[.int .i64 (a0 : Nat), .int .i64 (a1 : Nat), .int .i64 (a2 : Nat), .int .i64 (a3 : Nat), .int .i64 (a4 : Nat), .int .i64 (a5 : Nat), .string a6, .int .i64 (a7 : Nat), .int .i64 (a8 : Nat), .slice sa.p sa.n sa.c, .slice wa.p wa.n wa.c] 29) := ⟨_, rfl⟩
                obtain ⟨w2, hw2⟩ : ∃ w2, w2 = w1.alloc (.cells #[.int .i64 (a0 : Nat), .int .i64 (a1 : Nat), .int .i64 (a2 : Nat), .int .i64 (a3 : Nat), .int .i64 (a4 : Nat), .int .i64 (a5 : Nat), .string b6, .int .i64 (b7 : Nat), .int .i64 (b8 : Nat), .slice sb.p sb.n sb.c, .slice wb.p wb.n wb.c] 29) := ⟨_, rfl⟩
                obtain ⟨X, HXX⟩ : ∃ X, Hid (X = w.heap.size) := ⟨_, rfl⟩
                obtain ⟨Y, HYY⟩ : ∃ Y, Hid (Y = w.heap.size + 1) := ⟨_, rfl⟩
                have HA2 : Hid (Apart [] w w2) := by unfold Hid; rw [hw2, hw1]; exact ((Apart.refl [] w).alloc _).alloc _
                have HX2 : Hid (w2.heap[X]? = some (.cells (MM.cs ⟨a0, a1, a2, a3, a4, a5, a6, a7, a8, sa, wa⟩) 29 (0, 0))) := by unfold Hid; rw [HXX.out, hw2, hw1]; exact (((Apart.refl [] _).alloc _).block _ (by simp) (by simp)).trans (heap_alloc_new w _)
                have HY2 : Hid (w2.heap[Y]? = some (.cells (MM.cs ⟨a0, a1, a2, a3, a4, a5, b6, b7, b8, sb, wb⟩) 29 (0, 0))) := by
                  have := heap_alloc_new w1 (.cells #[.int .i64 (a0 : Nat), .int .i64 (a1 : Nat), .int .i64 (a2 : Nat), .int .i64 (a3 : Nat), .int .i64 (a4 : Nat), .int .i64 (a5 : Nat), .string b6, .int .i64 (b7 : Nat), .int .i64 (b8 : Nat), .slice sb.p sb.n sb.c, .slice wb.p wb.n wb.c] 29)
                  rw [← hw2] at this
                  unfold Hid
                  rw [HYY.out]
                  rw [hw1] at this
                  simpa [MM.cs] using this
                obtain ⟨⟨z0, z1, z2, z3, z4, z5⟩, z6, z7, z8, z9, z10⟩ := mrow11 HX2.out
                obtain ⟨⟨y0, y1, y2, y3, y4, y5⟩, y6, y7, y8, y9, y10⟩ := mrow11 HY2.out
                simp only at z0 z1 z2 z3 z4 z5 z6 z7 z8 z9 z10 y0 y1 y2 y3 y4 y5 y6 y7 y8 y9 y10
                go_enter Tryz.func20, Tryz.ntmps20
                go_upto_region 1 with fail
                rw [← hw1, ← hw2, ← HYY.out, ← HXX.out]
                clear hw1 hw2
                go_wp2_with fail
                go_ret
                exact ⟨by rw [Hvv.out]; rfl, HA2.out⟩
            · have ei : ¬ ((a5 : Nat) : Int) = (b5 : Int) := by omega
              have Hvv : Hid (v = false) := bool_f' HV.out (fun h => e5 (h).1.2.2.2.2.2.1)
              obtain ⟨w1, hw1⟩ : ∃ w1, w1 = w.alloc (.cells #[.int .i64 (a0 : Nat), .int .i64 (a1 : Nat), .int .i64 (a2 : Nat), .int .i64 (a3 : Nat), .int .i64 (a4 : Nat), .int .i64 (a5 : Nat), .string a6, .int .i64 (a7 : Nat), .int .i64 (a8 : Nat), .slice sa.p sa.n sa.c, .slice wa.p wa.n wa.c] 29) := ⟨_, rfl⟩
              obtain ⟨w2, hw2⟩ : ∃ w2, w2 = w1.alloc (.cells #[.int .i64 (a0 : Nat), .int .i64 (a1 : Nat), .int .i64 (a2 : Nat), .int .i64 (a3 : Nat), .int .i64 (a4 : Nat), .int .i64 (b5 : Nat), .string b6, .int .i64 (b7 : Nat), .int .i64 (b8 : Nat), .slice sb.p sb.n sb.c, .slice wb.p wb.n wb.c] 29) := ⟨_, rfl⟩
              obtain ⟨X, HXX⟩ : ∃ X, Hid (X = w.heap.size) := ⟨_, rfl⟩
              obtain ⟨Y, HYY⟩ : ∃ Y, Hid (Y = w.heap.size + 1) := ⟨_, rfl⟩
              have HA2 : Hid (Apart [] w w2) := by unfold Hid; rw [hw2, hw1]; exact ((Apart.refl [] w).alloc _).alloc _
              have HX2 : Hid (w2.heap[X]? = some (.cells (MM.cs ⟨a0, a1, a2, a3, a4, a5, a6, a7, a8, sa, wa⟩) 29 (0, 0))) := by unfold Hid; rw [HXX.out, hw2, hw1]; exact (((Apart.refl [] _).alloc _).block _ (by simp) (by simp)).trans (heap_alloc_new w _)
              have HY2 : Hid (w2.heap[Y]? = some (.cells (MM.cs ⟨a0, a1, a2, a3, a4, b5, b6, b7, b8, sb, wb⟩) 29 (0, 0))) := by
                have := heap_alloc_new w1 (.cells #[.int .i64 (a0 : Nat), .int .i64 (a1 : Nat), .int .i64 (a2 : Nat), .int .i64 (a3 : Nat), .int .i64 (a4 : Nat), .int .i64 (b5 : Nat), .string b6, .int .i64 (b7 : Nat), .int .i64 (b8 : Nat), .slice sb.p sb.n sb.c, .slice wb.p wb.n wb.c] 29)
                rw [← hw2] at this
                unfold Hid
                rw [HYY.out]
                rw [hw1] at this
                simpa [MM.cs] using this
              obtain ⟨⟨z0, z1, z2, z3, z4, z5⟩, z6, z7, z8, z9, z10⟩ := mrow11 HX2.out
              obtain ⟨⟨y0, y1, y2, y3, y4, y5⟩, y6, y7, y8, y9, y10⟩ := mrow11 HY2.out
              simp only at z0 z1 z2 z3 z4 z5 z6 z7 z8 z9 z10 y0 y1 y2 y3 y4 y5 y6 y7 y8 y9 y10
              go_enter Tryz.func20, Tryz.ntmps20
              go_upto_region 1 with fail
              rw [← hw1, ← hw2, ← HYY.out, ← HXX.out]
              clear hw1 hw2
              go_wp2_with fail
              go_ret
              exact ⟨by rw [Hvv.out]; rfl, HA2.out⟩
          · have ei : ¬ ((a4 : Nat) : Int) = (b4 : Int) := by omega
            have Hvv : Hid (v = false) := bool_f' HV.out (fun h => e4 (h).1.2.2.2.2.1)
            obtain ⟨w1, hw1⟩ : ∃ w1, w1 = w.alloc (.cells #[.int .i64 (a0 : Nat), .int .i64 (a1 : Nat), .int .i64 (a2 : Nat), .int .i64 (a3 : Nat), .int .i64 (a4 : Nat), .int .i64 (a5 : Nat), .string a6, .int .i64 (a7 : Nat), .int .i64 (a8 : Nat), .slice sa.p sa.n sa.c, .slice wa.p wa.n wa.c] 29) := ⟨_, rfl⟩
            obtain ⟨w2, hw2⟩ : ∃ w2, w2 = w1.alloc (.cells #[.int .i64 (a0 : Nat), .int .i64 (a1 : Nat), .int .i64 (a2 : Nat), .int .i64 (a3 : Nat), .int .i64 (b4 : Nat), .int .i64 (b5 : Nat), .string b6, .int .i64 (b7 : Nat), .int .i64 (b8 : Nat), .slice sb.p sb.n sb.c, .slice wb.p wb.n wb.c] 29) := ⟨_, rfl⟩
            obtain ⟨X, HXX⟩ : ∃ X, Hid (X = w.heap.size) := ⟨_, rfl⟩
            obtain ⟨Y, HYY⟩ : ∃ Y, Hid (Y = w.heap.size + 1) := ⟨_, rfl⟩
            have HA2 : Hid (Apart [] w w2) := by unfold Hid; rw [hw2, hw1]; exact ((Apart.refl [] w).alloc _).alloc _
            have HX2 : Hid (w2.heap[X]? = some (.cells (MM.cs ⟨a0, a1, a2, a3, a4, a5, a6, a7, a8, sa, wa⟩) 29 (0, 0))) := by unfold Hid; rw [HXX.out, hw2, hw1]; exact (((Apart.refl [] _).alloc _).block _ (by simp) (by simp)).trans (heap_alloc_new w _)
            have HY2 : Hid (w2.heap[Y]? = some (.cells (MM.cs ⟨a0, a1, a2, a3, b4, b5, b6, b7, b8, sb, wb⟩) 29 (0, 0))) := by
              have := heap_alloc_new w1 (.cells #[.int .i64 (a0 : Nat), .int .i64 (a1 : Nat), .int .i64 (a2 : Nat), .int .i64 (a3 : Nat), .int .i64 (b4 : Nat), .int .i64 (b5 : Nat), .string b6, .int .i64 (b7 : Nat), .int .i64 (b8 : Nat), .slice sb.p sb.n sb.c, .slice wb.p wb.n wb.c] 29)
              rw [← hw2] at this
              unfold Hid
              rw [HYY.out]
              rw [hw1] at this
              simpa [MM.cs] using this
            obtain ⟨⟨z0, z1, z2, z3, z4, z5⟩, z6, z7, z8, z9, z10⟩ := mrow11 HX2.out
            obtain ⟨⟨y0, y1, y2, y3, y4, y5⟩, y6, y7, y8, y9, y10⟩ := mrow11 HY2.out
            simp only at z0 z1 z2 z3 z4 z5 z6 z7 z8 z9 z10 y0 y1 y2 y3 y4 y5 y6 y7 y8 y9 y10
            go_enter Tryz.func20, Tryz.ntmps20
            go_upto_region 1 with fail
            rw [← hw1, ← hw2, ← HYY.out, ← HXX.out]
            clear hw1 hw2
            go_wp2_with fail
            go_ret
            exact ⟨by rw [Hvv.out]; rfl, HA2.out⟩
        · have ei : ¬ ((a3 : Nat) : Int) = (b3 : Int) := by omega
          have Hvv : Hid (v = false) := bool_f' HV.out (fun h => e3 (h).1.2.2.2.1)
          obtain ⟨w1, hw1⟩ : ∃ w1, w1 = w.alloc (.cells #[.int .i64 (a0 : Nat), .int .i64 (a1 : Nat), .int .i64 (a2 : Nat), .int .i64 (a3 : Nat), .int .i64 (a4 : Nat), .int .i64 (a5 : Nat), .string a6, .int .i64 (a7 : Nat), .int .i64 (a8 : Nat), .slice sa.p sa.n sa.c, .slice wa.p wa.n wa.c] 29) := ⟨_, rfl⟩
          obtain ⟨w2, hw2⟩ : ∃ w2, w2 = w1.alloc (.cells #[.int .i64 (a0 : Nat), .int .i64 (a1 : Nat), .int .i64 (a2 : Nat), .int .i64 (b3 : Nat), .int .i64 (b4 : Nat), .int .i64 (b5 : Nat), .string b6, .int .i64 (b7 : Nat), .int .i64 (b8 : Nat), .slice sb.p sb.n sb.c, .slice wb.p wb.n wb.c] 29) := ⟨_, rfl⟩
          obtain ⟨X, HXX⟩ : ∃ X, Hid (X = w.heap.size) := ⟨_, rfl⟩
          obtain ⟨Y, HYY⟩ : ∃ Y, Hid (Y = w.heap.size + 1) := ⟨_, rfl⟩
          have HA2 : Hid (Apart [] w w2) := by unfold Hid; rw [hw2, hw1]; exact ((Apart.refl [] w).alloc _).alloc _
          have HX2 : Hid (w2.heap[X]? = some (.cells (MM.cs ⟨a0, a1, a2, a3, a4, a5, a6, a7, a8, sa, wa⟩) 29 (0, 0))) := by unfold Hid; rw [HXX.out, hw2, hw1]; exact (((Apart.refl [] _).alloc _).block _ (by simp) (by simp)).trans (heap_alloc_new w _)
          have HY2 : Hid (w2.heap[Y]? = some (.cells (MM.cs ⟨a0, a1, a2, b3, b4, b5, b6, b7, b8, sb, wb⟩) 29 (0, 0))) := by
            have := heap_alloc_new w1 (.cells #[.int .i64 (a0 : Nat), .int .i64 (a1 : Nat), .int .i64 (a2 : Nat), .int .i64 (b3 : Nat), .int .i64 (b4 : Nat), .int .i64 (b5 : Nat), .string b6, .int .i64 (b7 : Nat), .int .i64 (b8 : Nat), .slice sb.p sb.n sb.c, .slice wb.p wb.n wb.c] 29)
            rw [← hw2] at this
            unfold Hid
            rw [HYY.out]
            rw [hw1] at this
            simpa [MM.cs] using this
          obtain ⟨⟨z0, z1, z2, z3, z4, z5⟩, z6, z7, z8, z9, z10⟩ := mrow11 HX2.out
          obtain ⟨⟨y0, y1, y2, y3, y4, y5⟩, y6, y7, y8, y9, y10⟩ := mrow11 HY2.out
          simp only at z0 z1 z2 z3 z4 z5 z6 z7 z8 z9 z10 y0 y1 y2 y3 y4 y5 y6 y7 y8 y9 y10
          go_enter Tryz.func20, Tryz.ntmps20
          go_upto_region 1 with fail
          rw [← hw1, ← hw2, ← HYY.out, ← HXX.out]
          clear hw1 hw2
          go_wp2_with fail
          go_ret
          exact ⟨by rw [Hvv.out]; rfl, HA2.out⟩
      · have ei : ¬ ((a2 : Nat) : Int) = (b2 : Int) := by omega
        have Hvv : Hid (v = false) := bool_f' HV.out (fun h => e2 (h).1.2.2.1)
        obtain ⟨w1, hw1⟩ : ∃ w1, w1 = w.alloc (.cells #[.int .i64 (a0 : Nat), .int .i64 (a1 : Nat), .int .i64 (a2 : Nat), .int .i64 (a3 : Nat), .int .i64 (a4 : Nat), .int .i64 (a5 : Nat), .string a6, .int .i64 (a7 : Nat), .int .i64 (a8 : Nat), .slice sa.p sa.n sa.c, .slice wa.p wa.n wa.c] 29) := ⟨_, rfl⟩
        obtain ⟨w2, hw2⟩ : ∃ w2, w2 = w1.alloc (.cells #[.int .i64 (a0 : Nat), .int .i64 (a1 : Nat), .int .i64 (b2 : Nat), .int .i64 (b3 : Nat), .int .i64 (b4 : Nat), .int .i64 (b5 : Nat), .string b6, .int .i64 (b7 : Nat), .int .i64 (b8 : Nat), .slice sb.p sb.n sb.c, .slice wb.p wb.n wb.c] 29) := ⟨_, rfl⟩
        obtain ⟨X, HXX⟩ : ∃ X, Hid (X = w.heap.size) := ⟨_, rfl⟩
        obtain ⟨Y, HYY⟩ : ∃ Y, Hid (Y = w.heap.size + 1) := ⟨_, rfl⟩
        have HA2 : Hid (Apart [] w w2) := by unfold Hid; rw [hw2, hw1]; exact ((Apart.refl [] w).alloc _).alloc _
        have HX2 : Hid (w2.heap[X]? = some (.cells (MM.cs ⟨a0, a1, a2, a3, a4, a5, a6, a7, a8, sa, wa⟩) 29 (0, 0))) := by unfold Hid; rw [HXX.out, hw2, hw1]; exact (((Apart.refl [] _).alloc _).block _ (by simp) (by simp)).trans (heap_alloc_new w _)
        have HY2 : Hid (w2.heap[Y]? = some (.cells (MM.cs ⟨a0, a1, b2, b3, b4, b5, b6, b7, b8, sb, wb⟩) 29 (0, 0))) := by
          have := heap_alloc_new w1 (.cells #[.int .i64 (a0 : Nat), .int .i64 (a1 : Nat), .int .i64 (b2 : Nat), .int .i64 (b3 : Nat), .int .i64 (b4 : Nat), .int .i64 (b5 : Nat), .string b6, .int .i64 (b7 : Nat), .int .i64 (b8 : Nat), .slice sb.p sb.n sb.c, .slice wb.p wb.n wb.c] 29)
          rw [← hw2] at this
          unfold Hid
          rw [HYY.out]
          rw [hw1] at this
          simpa [MM.cs] using this
        obtain ⟨⟨z0, z1, z2, z3, z4, z5⟩, z6, z7, z8, z9, z10⟩ := mrow11 HX2.out
        obtain ⟨⟨y0, y1, y2, y3, y4, y5⟩, y6, y7, y8, y9, y10⟩ := mrow11 HY2.out
        simp only at z0 z1 z2 z3 z4 z5 z6 z7 z8 z9 z10 y0 y1 y2 y3 y4 y5 y6 y7 y8 y9 y10
        go_enter Tryz.func20, Tryz.ntmps20
        go_upto_region 1 with fail
        rw [← hw1, ← hw2, ← HYY.out, ← HXX.out]
        clear hw1 hw2
        go_wp2_with fail
        go_ret
        exact ⟨by rw [Hvv.out]; rfl, HA2.out⟩
    · have ei : ¬ ((a1 : Nat) : Int) = (b1 : Int) := by omega
      have Hvv : Hid (v = false) := bool_f' HV.out (fun h => e1 (h).1.2.1)
      obtain ⟨w1, hw1⟩ : ∃ w1, w1 = w.alloc (.cells #[.int .i64 (a0 : Nat), .int .i64 (a1 : Nat), .int .i64 (a2 : Nat), .int .i64 (a3 : Nat), .int .i64 (a4 : Nat), .int .i64 (a5 : Nat), .string a6, .int .i64 (a7 : Nat), .int .i64 (a8 : Nat), .slice sa.p sa.n sa.c, .slice wa.p wa.n wa.c] 29) := ⟨_, rfl⟩
      obtain ⟨w2, hw2⟩ : ∃ w2, w2 = w1.alloc (.cells #[.int .i64 (a0 : Nat), .int .i64 (b1 : Nat), .int .i64 (b2 : Nat), .int .i64 (b3 : Nat), .int .i64 (b4 : Nat), .int .i64 (b5 : Nat), .string b6, .int .i64 (b7 : Nat), .int .i64 (b8 : Nat), .slice sb.p sb.n sb.c, .slice wb.p wb.n wb.c] 29) := ⟨_, rfl⟩
      obtain ⟨X, HXX⟩ : ∃ X, Hid (X = w.heap.size) := ⟨_, rfl⟩
      obtain ⟨Y, HYY⟩ : ∃ Y, Hid (Y = w.heap.size + 1) := ⟨_, rfl⟩
      have HA2 : Hid (Apart [] w w2) := by unfold Hid; rw [hw2, hw1]; exact ((Apart.refl [] w).alloc _).alloc _
      have HX2 : Hid (w2.heap[X]? = some (.cells (MM.cs ⟨a0, a1, a2, a3, a4, a5, a6, a7, a8, sa, wa⟩) 29 (0, 0))) := by unfold Hid; rw [HXX.out, hw2, hw1]; exact (((Apart.refl [] _).alloc _).block _ (by simp) (by simp)).trans (heap_alloc_new w _)
      have HY2 : Hid (w2.heap[Y]? = some (.cells (MM.cs ⟨a0, b1, b2, b3, b4, b5, b6, b7, b8, sb, wb⟩) 29 (0, 0))) := by
        have := heap_alloc_new w1 (.cells #[.int .i64 (a0 : Nat), .int .i64 (b1 : Nat), .int .i64 (b2 : Nat), .int .i64 (b3 : Nat), .int .i64 (b4 : Nat), .int .i64 (b5 : Nat), .string b6, .int .i64 (b7 : Nat), .int .i64 (b8 : Nat), .slice sb.p sb.n sb.c, .slice wb.p wb.n wb.c] 29)
        rw [← hw2] at this
        unfold Hid
        rw [HYY.out]
        rw [hw1] at this
        simpa [MM.cs] using this
      obtain ⟨⟨z0, z1, z2, z3, z4, z5⟩, z6, z7, z8, z9, z10⟩ := mrow11 HX2.out
      obtain ⟨⟨y0, y1, y2, y3, y4, y5⟩, y6, y7, y8, y9, y10⟩ := mrow11 HY2.out
      simp only at z0 z1 z2 z3 z4 z5 z6 z7 z8 z9 z10 y0 y1 y2 y3 y4 y5 y6 y7 y8 y9 y10
      go_enter Tryz.func20, Tryz.ntmps20
      go_upto_region 1 with fail
      rw [← hw1, ← hw2, ← HYY.out, ← HXX.out]
      clear hw1 hw2
      go_wp2_with fail
      go_ret
      exact ⟨by rw [Hvv.out]; rfl, HA2.out⟩
  · have ei : ¬ ((a0 : Nat) : Int) = (b0 : Int) := by omega
    have Hvv : Hid (v = false) := bool_f' HV.out (fun h => e0 (h).1.1)
    obtain ⟨w1, hw1⟩ : ∃ w1, w1 = w.alloc (.cells #[.int .i64 (a0 : Nat), .int .i64 (a1 : Nat), .int .i64 (a2 : Nat), .int .i64 (a3 : Nat), .int .i64 (a4 : Nat), .int .i64 (a5 : Nat), .string a6, .int .i64 (a7 : Nat), .int .i64 (a8 : Nat), .slice sa.p sa.n sa.c, .slice wa.p wa.n wa.c] 29) := ⟨_, rfl⟩
    obtain ⟨w2, hw2⟩ : ∃ w2, w2 = w1.alloc (.cells #[.int .i64 (b0 : Nat), .int .i64 (b1 : Nat), .int .i64 (b2 : Nat), .int .i64 (b3 : Nat), .int .i64 (b4 : Nat), .int .i64 (b5 : Nat), .string b6, .int .i64 (b7 : Nat), .int .i64 (b8 : Nat), .slice sb.p sb.n sb.c, .slice wb.p wb.n wb.c] 29) := ⟨_, rfl⟩
    obtain ⟨X, HXX⟩ : ∃ X, Hid (X = w.heap.size) := ⟨_, rfl⟩
    obtain ⟨Y, HYY⟩ : ∃ Y, Hid (Y = w.heap.size + 1) := ⟨_, rfl⟩
    have HA2 : Hid (Apart [] w w2) := by unfold Hid; rw [hw2, hw1]; exact ((Apart.refl [] w).alloc _).alloc _
    have HX2 : Hid (w2.heap[X]? = some (.cells (MM.cs ⟨a0, a1, a2, a3, a4, a5, a6, a7, a8, sa, wa⟩) 29 (0, 0))) := by unfold Hid; rw [HXX.out, hw2, hw1]; exact (((Apart.refl [] _).alloc _).block _ (by simp) (by simp)).trans (heap_alloc_new w _)
    have HY2 : Hid (w2.heap[Y]? = some (.cells (MM.cs ⟨b0, b1, b2, b3, b4, b5, b6, b7, b8, sb, wb⟩) 29 (0, 0))) := by
      have := heap_alloc_new w1 (.cells #[.int .i64 (b0 : Nat), .int .i64 (b1 : Nat), .int .i64 (b2 : Nat), .int .i64 (b3 : Nat), .int .i64 (b4 : Nat), .int .i64 (b5 : Nat), .string b6, .int .i64 (b7 : Nat), .int .i64 (b8 : Nat), .slice sb.p sb.n sb.c, .slice wb.p wb.n wb.c] 29)
      rw [← hw2] at this
      unfold Hid
      rw [HYY.out]
      rw [hw1] at this
      simpa [MM.cs] using this
    obtain ⟨⟨z0, z1, z2, z3, z4, z5⟩, z6, z7, z8, z9, z10⟩ := mrow11 HX2.out
    obtain ⟨⟨y0, y1, y2, y3, y4, y5⟩, y6, y7, y8, y9, y10⟩ := mrow11 HY2.out
    simp only at z0 z1 z2 z3 z4 z5 z6 z7 z8 z9 z10 y0 y1 y2 y3 y4 y5 y6 y7 y8 y9 y10
    go_enter Tryz.func20, Tryz.ntmps20
    go_upto_region 1 with fail
    rw [← hw1, ← hw2, ← HYY.out, ← HXX.out]
    clear hw1 hw2
    go_wp2_with fail
    go_ret
    exact ⟨by rw [Hvv.out]; rfl, HA2.out⟩
end Go.Proofs.YtddffdcjhleejaaGreat.ds
