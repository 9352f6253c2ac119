import Derived.Test.YtddffdcjhleejaaGreatG1
import Derived.Test.YtddffdcjhleejaaGreatG18
namespace Go.Proofs.YtddffdcjhleejaaGreat.ds
open Go.ChangeShapes Go.WideShapes Go.ChangeAt Go.RowKit Go.Sort
set_option linter.unusedVariables false
set_option linter.unusedSimpArgs false
theorem bool_of' (p : Prop) : ∃ v : Bool, v = true ↔ p := by
  by_cases h : p
  · exact ⟨true, by simp [h]⟩
  · exact ⟨false, by simp [h]⟩
set_option maxHeartbeats 8000000 in
set_option maxRecDepth 100000 in
theorem sameWrite_ok {w : World} (e1 e2 : E) (r1 r2 : Wr) (h1 : Reads w e1 r1) (h2 : Reads w e2 r2) (v : Bool) (hv : v = true ↔ r1 = r2) : Calls Tryz.prog 31 #[.agg #[.int .i64 e1.n, .int .i64 e1.c, .string e1.k, .bool e1.d, .slice e1.v.p e1.v.n e1.v.c, .slice e1.x.p e1.x.n e1.x.c], .agg #[.int .i64 e2.n, .int .i64 e2.c, .string e2.k, .bool e2.d, .slice e2.v.p e2.v.n e2.v.c, .slice e2.x.p e2.x.n e2.x.c]] w fun r w' => r = .returned (.bool v) ∧ Apart [] w w' := by
  obtain ⟨n1, c1, k1, d1, v1, x1⟩ := e1
  obtain ⟨n2, c2, k2, d2, v2, x2⟩ := e2
  obtain ⟨rn1, rc1, rk1, rd1, vs1, xs1⟩ := r1
  obtain ⟨rn2, rc2, rk2, rd2, vs2, xs2⟩ := r2
  obtain ⟨a1, a2, a3, a4, hv1, hvn1, hvl1, hvb1, hx1, hxl1, hvo1, hxo1⟩ := h1
  obtain ⟨b1, b2, b3, b4, hv2, hvn2, hvl2, hvb2, hx2, hxl2, hvo2, hxo2⟩ := h2
  simp only at a1 a2 a3 a4 hv1 hvn1 hvl1 hvb1 hx1 hxl1 hvo1 hxo1 b1 b2 b3 b4 hv2 hvn2 hvl2 hvb2 hx2 hxl2 hvo2 hxo2
  subst a1 a2 a3 a4 b1 b2 b3 b4
  simp only [Wr.mk.injEq] at hv
  simp only
  obtain ⟨bv, hbv⟩ := bool_of' (vs1 = vs2)
  obtain ⟨bx, hbx⟩ := bool_of' (xs1 = xs2)
  have HCv : Hid (∀ W, Apart [] w W → Calls Tryz.prog 13 #[.slice v1.p v1.n v1.c, .slice v2.p v2.n v2.c] W fun r w' => r = .returned (.bool bv) ∧ w' = W) := fun W a => sameBytes_ok (⟨hv1.kept0 a, hvn1, hvb1, hvo1⟩ : RBs W v1 vs1) ⟨hv2.kept0 a, hvn2, hvb2, hvo2⟩ bv hbv
  have HCx : Hid (∀ W, Apart [] w W → Calls Tryz.prog 23 #[.slice x1.p x1.n x1.c, .slice x2.p x2.n x2.c] W fun r w' => r = .returned (.bool bx) ∧ Apart [] W w') := fun W a => sameSet_ok (hx1.kept0 a) (hx2.kept0 a) bx hbx
  rw [← hbv, ← hbx] at hv
  have HV := hid hv
  clear hv hbv hbx hv1 hvn1 hvl1 hvb1 hx1 hxl1 hvo1 hxo1 hv2 hvn2 hvl2 hvb2 hx2 hxl2 hvo2 hxo2
  by_cases hn : n1 = n2
  · subst hn
    by_cases hc : c1 = c2
    · subst hc
      by_cases hk : k1 = k2
      · subst hk
        by_cases hd : d1 = d2
        · subst hd
          obtain ⟨w1, hw1⟩ : ∃ w1, w1 = w.alloc (.cells #[.int .i64 n1, .int .i64 c1, .string k1, .bool d1, .slice v1.p v1.n v1.c, .slice x1.p x1.n x1.c] 37) := ⟨_, rfl⟩
          obtain ⟨w2, hw2⟩ : ∃ w2, w2 = w1.alloc (.cells #[.int .i64 n1, .int .i64 c1, .string k1, .bool d1, .slice v2.p v2.n v2.c, .slice x2.p x2.n x2.c] 37) := ⟨_, rfl⟩
          obtain ⟨X, HXX⟩ : ∃ X, Hid (X = w.heap.size) := ⟨_, rfl⟩
          obtain ⟨Y, HYY⟩ : ∃ Y, Hid (Y = w.heap.size + 1) := ⟨_, rfl⟩
          have HA2 : Hid (Apart [] w w2) := by unfold Hid; rw [hw2, hw1]; exact ((Apart.refl [] w).alloc _).alloc _
          have hX2 : w2.heap[X]? = some (.cells #[.int .i64 n1, .int .i64 c1, .string k1, .bool d1, .slice v1.p v1.n v1.c, .slice x1.p x1.n x1.c] 37 (0, 0)) := by rw [HXX.out, hw2, hw1]; exact (((Apart.refl [] _).alloc _).block _ (by simp) (by simp)).trans (heap_alloc_new w _)
          have hY2 : w2.heap[Y]? = some (.cells #[.int .i64 n1, .int .i64 c1, .string k1, .bool d1, .slice v2.p v2.n v2.c, .slice x2.p x2.n x2.c] 37 (0, 0)) := by
            have := heap_alloc_new w1 (.cells #[.int .i64 n1, .int .i64 c1, .string k1, .bool d1, .slice v2.p v2.n v2.c, .slice x2.p x2.n x2.c] 37)
            rw [← hw2] at this
            rw [HYY.out]
            rw [hw1] at this
            simpa using this
          obtain ⟨z0, z1, z2, z3, z4, z5⟩ := rowv6 hX2
          obtain ⟨y0, y1, y2, y3, y4, y5⟩ := rowv6 hY2
          clear hX2 hY2
          go_enter Tryz.func31, Tryz.ntmps31
          go_upto_region 1 with fail
          rw [← hw1, ← hw2, ← HYY.out, ← HXX.out]
          clear hw1 hw2
          go_wp2_with fail
          refine (HCv.out w2 HA2.out).mono ?_
          rintro _ wn ⟨rfl, hwn⟩
          rw [hwn]
          clear hwn wn
          try dsimp only
          cases bv with
          | false =>
            have Hvv : Hid (v = false) := bool_f' HV.out (by simp)
            go_wp2_with fail
            go_ret
            exact ⟨by rw [Hvv.out]; rfl, HA2.out⟩
          | true =>
            have Hvv : Hid (v = bx) := by unfold Hid; rw [Bool.eq_iff_iff, HV.out]; simp
            go_wp2_with fail
            refine (HCx.out w2 HA2.out).mono ?_
            rintro _ w3 ⟨rfl, ha3⟩
            have HA3 : Hid (Apart [] w w3) := HA2.out.trans ha3
            clear ha3 z0 z1 z2 z3 z4 z5 y0 y1 y2 y3 y4 y5
            try dsimp only
            go_wp2_with fail
            go_ret
            exact ⟨by rw [Hvv.out]; rfl, HA3.out⟩
        · have hdb : (d1 == d2) = false := by simp [hd]
          obtain ⟨w1, hw1⟩ : ∃ w1, w1 = w.alloc (.cells #[.int .i64 n1, .int .i64 c1, .string k1, .bool d1, .slice v1.p v1.n v1.c, .slice x1.p x1.n x1.c] 37) := ⟨_, rfl⟩
          obtain ⟨w2, hw2⟩ : ∃ w2, w2 = w1.alloc (.cells #[.int .i64 n1, .int .i64 c1, .string k1, .bool d2, .slice v2.p v2.n v2.c, .slice x2.p x2.n x2.c] 37) := ⟨_, rfl⟩
          obtain ⟨X, HXX⟩ : ∃ X, Hid (X = w.heap.size) := ⟨_, rfl⟩
          obtain ⟨Y, HYY⟩ : ∃ Y, Hid (Y = w.heap.size + 1) := ⟨_, rfl⟩
          have HA2 : Hid (Apart [] w w2) := by unfold Hid; rw [hw2, hw1]; exact ((Apart.refl [] w).alloc _).alloc _
          have hX2 : w2.heap[X]? = some (.cells #[.int .i64 n1, .int .i64 c1, .string k1, .bool d1, .slice v1.p v1.n v1.c, .slice x1.p x1.n x1.c] 37 (0, 0)) := by rw [HXX.out, hw2, hw1]; exact (((Apart.refl [] _).alloc _).block _ (by simp) (by simp)).trans (heap_alloc_new w _)
          have hY2 : w2.heap[Y]? = some (.cells #[.int .i64 n1, .int .i64 c1, .string k1, .bool d2, .slice v2.p v2.n v2.c, .slice x2.p x2.n x2.c] 37 (0, 0)) := by
            have := heap_alloc_new w1 (.cells #[.int .i64 n1, .int .i64 c1, .string k1, .bool d2, .slice v2.p v2.n v2.c, .slice x2.p x2.n x2.c] 37)
            rw [← hw2] at this
            rw [HYY.out]
            rw [hw1] at this
            simpa using this
          obtain ⟨z0, z1, z2, z3, z4, z5⟩ := rowv6 hX2
          obtain ⟨y0, y1, y2, y3, y4, y5⟩ := rowv6 hY2
          clear hX2 hY2
          go_enter Tryz.func31, Tryz.ntmps31
          go_upto_region 1 with fail
          rw [← hw1, ← hw2, ← HYY.out, ← HXX.out]
          clear hw1 hw2
          have Hvv : Hid (v = false) := bool_f' HV.out (fun h => hd h.2.2.2.1)
          go_wp2_with fail
          go_ret
          exact ⟨by rw [Hvv.out]; rfl, HA2.out⟩
      · have hkb : (k1.toList == k2.toList) = false := by rw [beq_eq_false_iff_ne]; exact fun h => hk (toList_inj h)
        obtain ⟨w1, hw1⟩ : ∃ w1, w1 = w.alloc (.cells #[.int .i64 n1, .int .i64 c1, .string k1, .bool d1, .slice v1.p v1.n v1.c, .slice x1.p x1.n x1.c] 37) := ⟨_, rfl⟩
        obtain ⟨w2, hw2⟩ : ∃ w2, w2 = w1.alloc (.cells #[.int .i64 n1, .int .i64 c1, .string k2, .bool d2, .slice v2.p v2.n v2.c, .slice x2.p x2.n x2.c] 37) := ⟨_, rfl⟩
        obtain ⟨X, HXX⟩ : ∃ X, Hid (X = w.heap.size) := ⟨_, rfl⟩
        obtain ⟨Y, HYY⟩ : ∃ Y, Hid (Y = w.heap.size + 1) := ⟨_, rfl⟩
        have HA2 : Hid (Apart [] w w2) := by unfold Hid; rw [hw2, hw1]; exact ((Apart.refl [] w).alloc _).alloc _
        have hX2 : w2.heap[X]? = some (.cells #[.int .i64 n1, .int .i64 c1, .string k1, .bool d1, .slice v1.p v1.n v1.c, .slice x1.p x1.n x1.c] 37 (0, 0)) := by rw [HXX.out, hw2, hw1]; exact (((Apart.refl [] _).alloc _).block _ (by simp) (by simp)).trans (heap_alloc_new w _)
        have hY2 : w2.heap[Y]? = some (.cells #[.int .i64 n1, .int .i64 c1, .string k2, .bool d2, .slice v2.p v2.n v2.c, .slice x2.p x2.n x2.c] 37 (0, 0)) := by
          have := heap_alloc_new w1 (.cells #[.int .i64 n1, .int .i64 c1, .string k2, .bool d2, .slice v2.p v2.n v2.c, .slice x2.p x2.n x2.c] 37)
          rw [← hw2] at this
          rw [HYY.out]
          rw [hw1] at this
          simpa using this
        obtain ⟨z0, z1, z2, z3, z4, z5⟩ := rowv6 hX2
        obtain ⟨y0, y1, y2, y3, y4, y5⟩ := rowv6 hY2
        clear hX2 hY2
        go_enter Tryz.func31, Tryz.ntmps31
        go_upto_region 1 with fail
        rw [← hw1, ← hw2, ← HYY.out, ← HXX.out]
        clear hw1 hw2
        have Hvv : Hid (v = false) := bool_f' HV.out (fun h => hk h.2.2.1)
        go_wp2_with fail
        go_ret
        exact ⟨by rw [Hvv.out]; rfl, HA2.out⟩
    · skip
      obtain ⟨w1, hw1⟩ : ∃ w1, w1 = w.alloc (.cells #[.int .i64 n1, .int .i64 c1, .string k1, .bool d1, .slice v1.p v1.n v1.c, .slice x1.p x1.n x1.c] 37) := ⟨_, rfl⟩
      obtain ⟨w2, hw2⟩ : ∃ w2, w2 = w1.alloc (.cells #[.int .i64 n1, .int .i64 c2, .string k2, .bool d2, .slice v2.p v2.n v2.c, .slice x2.p x2.n x2.c] 37) := ⟨_, rfl⟩
      obtain ⟨X, HXX⟩ : ∃ X, Hid (X = w.heap.size) := ⟨_, rfl⟩
      obtain ⟨Y, HYY⟩ : ∃ Y, Hid (Y = w.heap.size + 1) := ⟨_, rfl⟩
      have HA2 : Hid (Apart [] w w2) := by unfold Hid; rw [hw2, hw1]; exact ((Apart.refl [] w).alloc _).alloc _
      have hX2 : w2.heap[X]? = some (.cells #[.int .i64 n1, .int .i64 c1, .string k1, .bool d1, .slice v1.p v1.n v1.c, .slice x1.p x1.n x1.c] 37 (0, 0)) := by rw [HXX.out, hw2, hw1]; exact (((Apart.refl [] _).alloc _).block _ (by simp) (by simp)).trans (heap_alloc_new w _)
      have hY2 : w2.heap[Y]? = some (.cells #[.int .i64 n1, .int .i64 c2, .string k2, .bool d2, .slice v2.p v2.n v2.c, .slice x2.p x2.n x2.c] 37 (0, 0)) := by
        have := heap_alloc_new w1 (.cells #[.int .i64 n1, .int .i64 c2, .string k2, .bool d2, .slice v2.p v2.n v2.c, .slice x2.p x2.n x2.c] 37)
        rw [← hw2] at this
        rw [HYY.out]
        rw [hw1] at this
        simpa using this
      obtain ⟨z0, z1, z2, z3, z4, z5⟩ := rowv6 hX2
      obtain ⟨y0, y1, y2, y3, y4, y5⟩ := rowv6 hY2
      clear hX2 hY2
      go_enter Tryz.func31, Tryz.ntmps31
      go_upto_region 1 with fail
      rw [← hw1, ← hw2, ← HYY.out, ← HXX.out]
      clear hw1 hw2
      have Hvv : Hid (v = false) := bool_f' HV.out (fun h => hc h.2.1)
      go_wp2_with fail
      go_ret
      exact ⟨by rw [Hvv.out]; rfl, HA2.out⟩
  · skip
    obtain ⟨w1, hw1⟩ : ∃ w1, w1 = w.alloc (.cells #[.int .i64 n1, .int .i64 c1, .string k1, .bool d1, .slice v1.p v1.n v1.c, .slice x1.p x1.n x1.c] 37) := ⟨_, rfl⟩
    obtain ⟨w2, hw2⟩ : ∃ w2, w2 = w1.alloc (.cells #[.int .i64 n2, .int .i64 c2, .string k2, .bool d2, .slice v2.p v2.n v2.c, .slice x2.p x2.n x2.c] 37) := ⟨_, rfl⟩
    obtain ⟨X, HXX⟩ : ∃ X, Hid (X = w.heap.size) := ⟨_, rfl⟩
    obtain ⟨Y, HYY⟩ : ∃ Y, Hid (Y = w.heap.size + 1) := ⟨_, rfl⟩
    have HA2 : Hid (Apart [] w w2) := by unfold Hid; rw [hw2, hw1]; exact ((Apart.refl [] w).alloc _).alloc _
    have hX2 : w2.heap[X]? = some (.cells #[.int .i64 n1, .int .i64 c1, .string k1, .bool d1, .slice v1.p v1.n v1.c, .slice x1.p x1.n x1.c] 37 (0, 0)) := by rw [HXX.out, hw2, hw1]; exact (((Apart.refl [] _).alloc _).block _ (by simp) (by simp)).trans (heap_alloc_new w _)
    have hY2 : w2.heap[Y]? = some (.cells #[.int .i64 n2, .int .i64 c2, .string k2, .bool d2, .slice v2.p v2.n v2.c, .slice x2.p x2.n x2.c] 37 (0, 0)) := by
      have := heap_alloc_new w1 (.cells #[.int .i64 n2, .int .i64 c2, .string k2, .bool d2, .slice v2.p v2.n v2.c, .slice x2.p x2.n x2.c] 37)
      rw [← hw2] at this
      rw [HYY.out]
      rw [hw1] at this
      simpa using this
    obtain ⟨z0, z1, z2, z3, z4, z5⟩ := rowv6 hX2
    obtain ⟨y0, y1, y2, y3, y4, y5⟩ := rowv6 hY2
    clear hX2 hY2
    go_enter Tryz.func31, Tryz.ntmps31
    go_upto_region 1 with fail
    rw [← hw1, ← hw2, ← HYY.out, ← HXX.out]
    clear hw1 hw2
    have Hvv : Hid (v = false) := bool_f' HV.out (fun h => hn h.1)
    go_wp2_with fail
    go_ret
    exact ⟨by rw [Hvv.out]; rfl, HA2.out⟩
theorem gR_ext {xs ys : List Wr} (hl : xs.length = ys.length) (h : ∀ i, i < xs.length → gR xs i = gR ys i) : xs = ys := by
  apply List.ext_getElem hl
  intro i h1 h2
  have := h i h1
  rw [gR_eq _ _ h1, gR_eq _ _ h2] at this
  exact this
set_option maxHeartbeats 8000000 in
set_option maxRecDepth 100000 in
theorem sameWrites_ok {w : World} {s t : Sl} {es fs : List E} {rs us : List Wr} (h1 : RWs w s es rs) (h2 : RWs w t fs us) (v : Bool) (hv : v = true ↔ rs = us) : Calls Tryz.prog 51 #[.slice s.p s.n s.c, .slice t.p t.n t.c] w fun r w' => r = .returned (.bool v) ∧ Apart [] w w' := by
  have HX := hid h1
  have HY := hid h2
  have hl1 := h1.lim
  have hl2 := h2.lim
  have HV := hid hv
  clear h1 h2 hv
  by_cases hnm : s.n = t.n
  · have hnmi : ((s.n : Nat) : Int) = (t.n : Int) := by omega
    have HE := hid hnm
    clear hnm
    obtain ⟨sp, n, sc⟩ := s
    obtain ⟨tp, m, tc⟩ := t
    simp only at hl1 hl2 hnmi HE ⊢
    go_enter Tryz.func51, Tryz.ntmps51
    go_wp2_with fail
    go_loopw [5] (fun u wt => ∃ i : Nat, u = .int .i64 (i : Nat) ∧ i ≤ n ∧ Apart [] w wt ∧ ∀ j, j < i → gR rs j = gR us j) (fun u _ => n - (intOf u).toNat)
    case atStart => exact ⟨0, rfl, Nat.zero_le _, Apart.refl _ _, fun j hj => absurd hj (by omega)⟩
    case round =>
      obtain ⟨i, rfl, hi, hap, hsm⟩ := hrel
      have HA := hid hap
      have HS := hid hsm
      clear hap hsm
      by_cases hlt : i < n
      · have hlti : ((i : Nat) : Int) < (n : Int) := by omega
        have hltm : ((i : Nat) : Int) < (m : Int) := by have := HE.out; omega
        have HXr := hid (HX.out.kept0 HA.out)
        have HYr := hid (HY.out.kept0 HA.out)
        obtain ⟨P, o, hP, hPl, c0, c1, c2, c3, c4, c5⟩ := HXr.out.cells i hlt
        obtain ⟨P2, o2, hP2, hPl2, d0, d1, d2, d3, d4, d5⟩ := HYr.out.cells i (by have := HE.out; show i < m; omega)
        simp only at hP hP2
        subst hP hP2
        obtain ⟨bw, hbw⟩ := bool_of' (gR rs i = gR us i)
        have hCC := fun (W : World) (aW : Apart [] wr W) => sameWrite_ok (w := W) (gE es i) (gE fs i) (gR rs i) (gR us i) ((HXr.out.each i hlt).kept0 aW) ((HYr.out.each i (by have := HE.out; show i < m; omega)).kept0 aW) bw hbw
        obtain ⟨x, Hx⟩ : ∃ x, Hid (x = gE es i) := ⟨_, rfl⟩
        obtain ⟨y, Hy⟩ : ∃ y, Hid (y = gE fs i) := ⟨_, rfl⟩
        rw [← Hx.out] at c0 c1 c2 c3 c4 c5 hCC
        rw [← Hy.out] at d0 d1 d2 d3 d4 d5 hCC
        have HCC := hid hCC
        have HBW := hid hbw
        have HC : Hid (∀ W, Apart [] wr W → (W.cell? ⟨P, o + i * 6, none⟩ = some (.int .i64 x.n) ∧ W.cell? ⟨P, o + i * 6 + 1, none⟩ = some (.int .i64 x.c) ∧ W.cell? ⟨P, o + i * 6 + 2, none⟩ = some (.string x.k) ∧ W.cell? ⟨P, o + i * 6 + 3, none⟩ = some (.bool x.d) ∧ W.cell? ⟨P, o + i * 6 + 4, none⟩ = some (.slice x.v.p x.v.n x.v.c) ∧ W.cell? ⟨P, o + i * 6 + 5, none⟩ = some (.slice x.x.p x.x.n x.x.c)) ∧ (W.cell? ⟨P2, o2 + i * 6, none⟩ = some (.int .i64 y.n) ∧ W.cell? ⟨P2, o2 + i * 6 + 1, none⟩ = some (.int .i64 y.c) ∧ W.cell? ⟨P2, o2 + i * 6 + 2, none⟩ = some (.string y.k) ∧ W.cell? ⟨P2, o2 + i * 6 + 3, none⟩ = some (.bool y.d) ∧ W.cell? ⟨P2, o2 + i * 6 + 4, none⟩ = some (.slice y.v.p y.v.n y.v.c) ∧ W.cell? ⟨P2, o2 + i * 6 + 5, none⟩ = some (.slice y.x.p y.x.n y.x.c))) := fun W aW => ⟨⟨(aW.cell hPl (by simp)).trans c0, (aW.cell hPl (by simp)).trans c1, (aW.cell hPl (by simp)).trans c2, (aW.cell hPl (by simp)).trans c3, (aW.cell hPl (by simp)).trans c4, (aW.cell hPl (by simp)).trans c5⟩, (aW.cell hPl2 (by simp)).trans d0, (aW.cell hPl2 (by simp)).trans d1, (aW.cell hPl2 (by simp)).trans d2, (aW.cell hPl2 (by simp)).trans d3, (aW.cell hPl2 (by simp)).trans d4, (aW.cell hPl2 (by simp)).trans d5⟩
        clear c0 c1 c2 c3 c4 c5 d0 d1 d2 d3 d4 d5 hCC hbw
        go_upto_region 6 with fail
        refine wp_region_held_drew (S := fun W => Apart [] wr W) (by kernel_rfl) (Apart.refl [] wr).drew (fun hHeld => ?_)
        generalize wr.drew = wd at *
        refine tkn 0 17 (.slice (some ⟨P, o, none⟩) n sc) rfl ?_ ?_
        · intro W hSW; go_simp
        refine tkn 1 18 (.int .i64 (i : Nat)) rfl ?_ ?_
        · intro W hSW; go_simp
        refine tkn 2 19 (.pointer (some ⟨P, o + i * 6, none⟩)) rfl ?_ ?_
        · intro W hSW; go_simp
        refine tkn 3 20 (.agg #[.int .i64 x.n, .int .i64 x.c, .string x.k, .bool x.d, .slice x.v.p x.v.n x.v.c, .slice x.x.p x.x.n x.x.c]) rfl ?_ ?_
        · intro W hSW; obtain ⟨⟨c0, c1, c2, c3, c4, c5⟩, d0, d1, d2, d3, d4, d5⟩ := HC.out W hSW; go_simp
        refine tkn 4 21 (.slice (some ⟨P2, o2, none⟩) m tc) rfl ?_ ?_
        · intro W hSW; go_simp
        refine tkn 5 22 (.int .i64 (i : Nat)) rfl ?_ ?_
        · intro W hSW; go_simp
        refine tkn 6 23 (.pointer (some ⟨P2, o2 + i * 6, none⟩)) rfl ?_ ?_
        · intro W hSW; go_simp
        refine tkn 7 24 (.agg #[.int .i64 y.n, .int .i64 y.c, .string y.k, .bool y.d, .slice y.v.p y.v.n y.v.c, .slice y.x.p y.x.n y.x.c]) rfl ?_ ?_
        · intro W hSW; obtain ⟨⟨c0, c1, c2, c3, c4, c5⟩, d0, d1, d2, d3, d4, d5⟩ := HC.out W hSW; go_simp
        refine wpAnyH_ready (rs := [8]) (by kernel_rfl) (by simp) ?_
        refine AllReadyH.cons rfl (fun KK hKK => ?_) AllReadyH.nil
        go_simp
        refine (HCC.out _ hHeld).mono ?_
        rintro _ w6 ⟨rfl, a6⟩
        have hS6 : Apart [] wr w6 := hHeld.trans a6
        clear a6
        try dsimp only
        refine hKK.out _ _ hS6 (fun hHeld => ?_)
        clear hKK KK
        refine tkn 9 26 (.bool (!bw)) rfl ?_ ?_
        · intro W hSW; go_simp
        refine wpAnyH_done (by kernel_rfl) ?_ _
        cases bw with
        | false =>
          have Hvv : Hid (v = false) := bool_f' HV.out (fun h => by have := HBW.out.2 (by rw [h]); cases this)
          go_wp2_with fail
          go_ret
          exact ⟨by rw [Hvv.out]; rfl, HA.out.trans hHeld⟩
        | true =>
          have HRi : Hid (gR rs i = gR us i) := HBW.out.1 rfl
          go_wp2_with fail
          go_roundw
          case rel => exact ⟨i + 1, by go_num, by omega, HA.out.trans hHeld, fun j hj => by
            by_cases hji : j < i
            · exact HS.out j hji
            · obtain rfl : j = i := by omega
              exact HRi.out⟩
          case measure => simp [intOf]; omega
      · have hlti : ¬ ((i : Nat) : Int) < (n : Int) := by omega
        have hvv : Hid (v = true) := HV.out.2 (gR_ext (by rw [HX.out.rl, HY.out.rl]; exact HE.out) (fun j hj => HS.out j (by have := HX.out.rl; simp only at this; omega)))
        go_wp2_with fail
        go_ret
        exact ⟨by rw [hvv.out]; rfl, HA.out⟩
  · have hnmi : ¬ ((s.n : Nat) : Int) = (t.n : Int) := by omega
    have hvv : Hid (v = false) := bool_f' HV.out (fun h => by apply hnm; rw [← HX.out.rl, ← HY.out.rl, h])
    go_enter Tryz.func51, Tryz.ntmps51
    go_wp2_with fail
    go_ret
    exact ⟨by rw [hvv.out]; rfl, Apart.refl _ _⟩
end Go.Proofs.YtddffdcjhleejaaGreat.ds
