import Derived.Test.YtllhmidpphlbhaaG24
namespace Go.Proofs.Ytllhmidpphlbhaa.ds
open Go.ChangeShapes Go.WideShapes Go.ChangeAt Go.RowKit Go.Sort
set_option linter.unusedVariables false
set_option linter.unusedSimpArgs false

theorem lnum_ok (w : World) (e : Int) : Calls Try.prog 17 #[.int .i64 e] w fun r w' => r = .returned (.int .i64 e) ∧ w' = w := by
  go_enter Try.func17, Try.ntmps17
  go_wp2_with fail
  go_ret
  exact ⟨rfl, rfl⟩
set_option maxRecDepth 100000 in
theorem same_ok {w : World} {s t : Sl} {a b : List Nat} (h1 : RBs w s a) (h2 : RBs w t b) (v : Bool) (hv : v = true ↔ a = b) : Calls Try.prog 23 #[.slice s.p s.n s.c, .slice t.p t.n t.c] w fun r w' => r = .returned (.bool v) ∧ w' = w := by
  have c1 := conv_bytes h1.rd h1.len h1.ok
  have c2 := conv_bytes h2.rd h2.len h2.ok
  have HV : Hid (v = ((strB a).toList == (strB b).toList)) := by
    unfold Hid
    rw [Bool.eq_iff_iff, hv, beq_iff_eq, ← strB_inj h1.b8 h2.b8]
    exact ⟨fun h => by rw [h], toList_inj⟩
  clear h1 h2 hv
  generalize strB a = sa at *
  generalize strB b = sb at *
  rw [HV.out]
  go_enter Try.func23, Try.ntmps23
  go_wp2_with fail
  go_ret
  exact ⟨rfl, rfl⟩
set_option maxHeartbeats 4000000 in
set_option maxRecDepth 100000 in
theorem spans_ok {w : World} {p q : Option Addr} {n m c d : Nat} {xs ys : List S} (h1 : L w p n xs) (h2 : L w q m ys) (v : Bool) (hv : v = true ↔ xs = ys) : Calls Try.prog 57 #[.slice p n c, .slice q m d] w fun r w' => r = .returned (.bool v) ∧ Apart [] w w' := by
  have HX := hid h1
  have HY := hid h2
  have hl1 := h1.lim
  have hl2 := h2.lim
  have HV := hid hv
  have HN := hid h1.len
  have HM := hid h2.len
  clear h1 h2 hv
  by_cases hnm : n = m
  · have hnmi : ((n : Nat) : Int) = (m : Int) := by omega
    have HE := hid hnm
    clear hnm
    go_enter Try.func57, Try.ntmps57
    go_wp2_with fail
    go_loopw [5] (fun u wt => ∃ i : Nat, u = .int .i64 (i : Nat) ∧ i ≤ n ∧ Apart [] w wt ∧ ∀ j, j < i → g xs j = g ys j) (fun u _ => n - (intOf u).toNat)
    case atStart => exact ⟨0, rfl, Nat.zero_le _, Apart.refl _ _, fun j hj => absurd hj (by omega)⟩
    case round =>
      obtain ⟨i, rfl, hi, hap, hsm⟩ := hrel
      have HA := hid hap
      have HS := hid hsm
      clear hap hsm
      by_cases hlt : i < n
      · have hlti : ((i : Nat) : Int) < (n : Int) := by omega
        obtain ⟨P, o, hP, hPl, hc⟩ := (HX.out.kept0 HA.out).sp (by rw [HN.out]; omega)
        obtain ⟨P2, o2, hP2, hPl2, hc2⟩ := (HY.out.kept0 HA.out).sp (by rw [HM.out, ← HE.out]; omega)
        subst hP hP2
        obtain ⟨c0, c1, c2⟩ := hc i (by rw [HN.out]; exact hlt)
        obtain ⟨d0, d1, d2⟩ := hc2 i (by rw [HM.out, ← HE.out]; exact hlt)
        clear hc hc2
        obtain ⟨x, Hx⟩ : ∃ x, Hid (x = g xs i) := ⟨_, rfl⟩
        obtain ⟨y, Hy⟩ : ∃ y, Hid (y = g ys i) := ⟨_, rfl⟩
        rw [← Hx.out] at c0 c1 c2
        rw [← Hy.out] at d0 d1 d2
        have hltm : ((i : Nat) : Int) < (m : Int) := by have := HE.out; omega
        have HC : Hid (∀ W, Apart [] wr W → (W.cell? ⟨P, o + i * 3, none⟩ = some (.int .i64 x.n) ∧ W.cell? ⟨P, o + i * 3 + 1, none⟩ = some (.int .i64 x.b) ∧ W.cell? ⟨P, o + i * 3 + 2, none⟩ = some (.int .u64 (x.t : Int))) ∧ W.cell? ⟨P2, o2 + i * 3, none⟩ = some (.int .i64 y.n) ∧ W.cell? ⟨P2, o2 + i * 3 + 1, none⟩ = some (.int .i64 y.b) ∧ W.cell? ⟨P2, o2 + i * 3 + 2, none⟩ = some (.int .u64 (y.t : Int))) := fun W aW => ⟨⟨(aW.cell hPl (by simp)).trans c0, (aW.cell hPl (by simp)).trans c1, (aW.cell hPl (by simp)).trans c2⟩, (aW.cell hPl2 (by simp)).trans d0, (aW.cell hPl2 (by simp)).trans d1, (aW.cell hPl2 (by simp)).trans d2⟩
        clear c0 c1 c2 d0 d1 d2
        obtain ⟨ne, hne⟩ := bool_of (¬ (x.n = y.n ∧ x.b = y.b ∧ (x.t : Int) = (y.t : Int)))
        have HXY : Hid (ne = false ↔ g xs i = g ys i) := by
          unfold Hid
          rw [← Hx.out, ← Hy.out]
          cases ne with
          | true =>
            simp only [true_iff] at hne
            simp only [Bool.true_eq_false, false_iff]
            intro h
            exact hne (by rw [h]; exact ⟨rfl, rfl, rfl⟩)
          | false =>
            simp only [Bool.false_eq_true, false_iff, Classical.not_not] at hne
            simp only [true_iff]
            obtain ⟨xn, xb, xt⟩ := x
            obtain ⟨yn, yb, yt⟩ := y
            obtain ⟨e1, e2, e3⟩ := hne
            simp only at e1 e2 e3
            have e3 : xt = yt := by omega
            subst e1 e2 e3
            rfl
        have HNE := hid hne
        clear hne
        go_upto_region 6 with fail
        refine wp_region_held_drew (S := fun W => Apart [] wr W) (by kernel_rfl) (Apart.refl [] wr).drew (fun hHeld => ?_)
        generalize wr.drew = wd at *
        refine tk 0 17 (.slice (some ⟨P, o, none⟩) n c) rfl ?_ ?_
        · intro W hSW; go_simp
        simp only [Act.put, List.setIfInBounds_toArray, List.set_cons_zero, List.set_cons_succ]
        refine tk 1 18 (.int .i64 (i : Nat)) rfl ?_ ?_
        · intro W hSW; go_simp
        simp only [Act.put, List.setIfInBounds_toArray, List.set_cons_zero, List.set_cons_succ]
        refine tk 2 19 (.pointer (some ⟨P, o + i * 3, none⟩)) rfl ?_ ?_
        · intro W hSW; go_simp
        simp only [Act.put, List.setIfInBounds_toArray, List.set_cons_zero, List.set_cons_succ]
        refine tk 3 20 (.agg #[.int .i64 x.n, .int .i64 x.b, .int .u64 (x.t : Int)]) rfl ?_ ?_
        · intro W hSW; obtain ⟨⟨c0, c1, c2⟩, d0, d1, d2⟩ := HC.out W hSW; go_simp
        simp only [Act.put, List.setIfInBounds_toArray, List.set_cons_zero, List.set_cons_succ]
        refine tk 4 21 (.slice (some ⟨P2, o2, none⟩) m d) rfl ?_ ?_
        · intro W hSW; go_simp
        simp only [Act.put, List.setIfInBounds_toArray, List.set_cons_zero, List.set_cons_succ]
        refine tk 5 22 (.int .i64 (i : Nat)) rfl ?_ ?_
        · intro W hSW; go_simp
        simp only [Act.put, List.setIfInBounds_toArray, List.set_cons_zero, List.set_cons_succ]
        refine tk 6 23 (.pointer (some ⟨P2, o2 + i * 3, none⟩)) rfl ?_ ?_
        · intro W hSW; go_simp
        simp only [Act.put, List.setIfInBounds_toArray, List.set_cons_zero, List.set_cons_succ]
        refine tk 7 24 (.agg #[.int .i64 y.n, .int .i64 y.b, .int .u64 (y.t : Int)]) rfl ?_ ?_
        · intro W hSW; obtain ⟨⟨c0, c1, c2⟩, d0, d1, d2⟩ := HC.out W hSW; go_simp
        simp only [Act.put, List.setIfInBounds_toArray, List.set_cons_zero, List.set_cons_succ]
        refine tk 8 25 (.bool ne) rfl ?_ ?_
        · intro W hSW; have hne := HNE.out; go_simp; clear HX HY HV HN HM HC HS HNE; cases ne <;> simp_all
        simp only [Act.put, List.setIfInBounds_toArray, List.set_cons_zero, List.set_cons_succ]
        have HAd := hid hHeld
        refine wpAnyH_done (by kernel_rfl) ?_ _
        clear hHeld
        try dsimp only
        cases ne with
        | false =>
          go_wp2_with fail
          go_roundw
          case rel =>
            refine ⟨i + 1, by go_num, by omega, HA.out.trans HAd.out, fun j hj => ?_⟩
            by_cases hji : j < i
            · exact HS.out j hji
            · rw [show j = i by omega]; exact HXY.out.1 rfl
          case measure => simp [intOf]; omega
        | true =>
          have Hvv : Hid (v = false) := bool_f' HV.out (fun h => by have := HXY.out.2 (by rw [h]); cases this)
          go_wp2_with fail
          go_ret
          exact ⟨by rw [Hvv.out]; rfl, HA.out.trans HAd.out⟩
      · have hlti : ¬ ((i : Nat) : Int) < (n : Int) := by omega
        have Hvv : Hid (v = true) := HV.out.2 (g_ext (by rw [HN.out, HM.out]; exact HE.out) (fun j hj => HS.out j (by rw [HN.out] at hj; omega)))
        go_wp2_with fail
        go_ret
        exact ⟨by rw [Hvv.out]; rfl, HA.out⟩
  · have hnmi : ¬ ((n : Nat) : Int) = (m : Int) := by omega
    have Hvv : Hid (v = false) := bool_f' HV.out (fun h => hnm (by rw [← HN.out, ← HM.out, h]))
    clear hnm
    go_enter Try.func57, Try.ntmps57
    go_wp2_with fail
    go_ret
    exact ⟨by rw [Hvv.out]; rfl, Apart.refl _ _⟩
end Go.Proofs.Ytllhmidpphlbhaa.ds
namespace Go.Proofs.Ytllhmidpphlbhaa.ds
open Go.ChangeShapes Go.WideShapes Go.ChangeAt Go.RowKit Go.Sort
set_option linter.unusedVariables false
set_option linter.unusedSimpArgs false
theorem rowv6 {w : World} {g : Nat} {t : TypeId} {a b c d e f : Value} (h : w.heap[g]? = some (.cells #[a, b, c, d, e, f] t (0, 0))) : w.cell? ⟨g, 0, none⟩ = some a ∧ w.cell? ⟨g, 1, none⟩ = some b ∧ w.cell? ⟨g, 2, none⟩ = some c ∧ w.cell? ⟨g, 3, none⟩ = some d ∧ w.cell? ⟨g, 4, none⟩ = some e ∧ w.cell? ⟨g, 5, none⟩ = some f := by
  refine ⟨?_, ?_, ?_, ?_, ?_, ?_⟩ <;> (rw [cell_of_row _ _ _ _ _ _ h]; rfl)

set_option maxHeartbeats 8000000 in
set_option maxRecDepth 100000 in
theorem lwrites_ok {w : World} (e1 e2 : E) (r1 r2 : Wr) (h1 : Reads w e1 r1) (h2 : Reads w e2 r2) (v : Bool) (hv : v = true ↔ r1 = r2) : Calls Try.prog 44 #[.agg #[.int .i64 e1.n, .int .i64 e1.c, .string e1.k, .bool e1.d, .slice e1.v.p e1.v.n e1.v.c, .slice e1.x.p e1.x.n e1.x.c], .agg #[.int .i64 e2.n, .int .i64 e2.c, .string e2.k, .bool e2.d, .slice e2.v.p e2.v.n e2.v.c, .slice e2.x.p e2.x.n e2.x.c]] w fun r w' => r = .returned (.bool v) ∧ Apart [] w w' := by
  obtain ⟨n1, c1, k1, d1, v1, x1⟩ := e1
  obtain ⟨n2, c2, k2, d2, v2, x2⟩ := e2
  obtain ⟨rn1, rc1, rk1, rd1, vs1, xs1⟩ := r1
  obtain ⟨rn2, rc2, rk2, rd2, vs2, xs2⟩ := r2
  obtain ⟨a1, a2, a3, a4, hv1, hvn1, hvl1, hvb1, hx1, hxl1, hvo1, hxo1⟩ := h1
  obtain ⟨b1, b2, b3, b4, hv2, hvn2, hvl2, hvb2, hx2, hxl2, hvo2, hxo2⟩ := h2
  simp only at a1 a2 a3 a4 hv1 hvn1 hvl1 hvb1 hx1 hxl1 hvo1 hxo1 b1 b2 b3 b4 hv2 hvn2 hvl2 hvb2 hx2 hxl2 hvo2 hxo2
  subst a1 a2 a3 a4 b1 b2 b3 b4
  simp only [Wr.mk.injEq] at hv
  simp only
  obtain ⟨bv, hbv⟩ := bool_of (vs1 = vs2)
  obtain ⟨bx, hbx⟩ := bool_of (xs1 = xs2)
  have HCv : Hid (∀ W, Apart [] w W → Calls Try.prog 23 #[.slice v1.p v1.n v1.c, .slice v2.p v2.n v2.c] W fun r w' => r = .returned (.bool bv) ∧ w' = W) := fun W a => same_ok (⟨hv1.kept0 a, hvn1, hvb1, hvo1⟩ : RBs W v1 vs1) ⟨hv2.kept0 a, hvn2, hvb2, hvo2⟩ bv hbv
  have HCx : Hid (∀ W, Apart [] w W → Calls Try.prog 57 #[.slice x1.p x1.n x1.c, .slice x2.p x2.n x2.c] W fun r w' => r = .returned (.bool bx) ∧ Apart [] W w') := fun W a => spans_ok (hx1.kept0 a) (hx2.kept0 a) bx hbx
  rw [← hbv, ← hbx] at hv
  have HV := hid hv
  clear hv hbv hbx hv1 hvn1 hvl1 hvb1 hx1 hxl1 hvo1 hxo1 hv2 hvn2 hvl2 hvb2 hx2 hxl2 hvo2 hxo2
  by_cases hn : n1 = n2 ∧ c1 = c2
  · obtain ⟨hn, hc⟩ := hn
    subst hn hc
    by_cases hk : k1 = k2
    · subst hk
      by_cases hd : d1 = d2
      · subst hd
        obtain ⟨w1, hw1⟩ : ∃ w1, w1 = w.alloc (.cells #[.int .i64 n1, .int .i64 c1, .string k1, .bool d1, .slice v1.p v1.n v1.c, .slice x1.p x1.n x1.c] 50) := ⟨_, rfl⟩
        obtain ⟨w2, hw2⟩ : ∃ w2, w2 = w1.alloc (.cells #[.int .i64 n1, .int .i64 c1, .string k1, .bool d1, .slice v2.p v2.n v2.c, .slice x2.p x2.n x2.c] 50) := ⟨_, rfl⟩
        obtain ⟨X, HXX⟩ : ∃ X, Hid (X = w.heap.size) := ⟨_, rfl⟩
        obtain ⟨Y, HYY⟩ : ∃ Y, Hid (Y = w.heap.size + 1) := ⟨_, rfl⟩
        have HA2 : Hid (Apart [] w w2) := by unfold Hid; rw [hw2, hw1]; exact ((Apart.refl [] w).alloc _).alloc _
        have hX2 : w2.heap[X]? = some (.cells #[.int .i64 n1, .int .i64 c1, .string k1, .bool d1, .slice v1.p v1.n v1.c, .slice x1.p x1.n x1.c] 50 (0, 0)) := by rw [HXX.out, hw2, hw1]; exact (((Apart.refl [] _).alloc _).block _ (by simp) (by simp)).trans (heap_alloc_new w _)
        have hY2 : w2.heap[Y]? = some (.cells #[.int .i64 n1, .int .i64 c1, .string k1, .bool d1, .slice v2.p v2.n v2.c, .slice x2.p x2.n x2.c] 50 (0, 0)) := by
          have := heap_alloc_new w1 (.cells #[.int .i64 n1, .int .i64 c1, .string k1, .bool d1, .slice v2.p v2.n v2.c, .slice x2.p x2.n x2.c] 50)
          rw [← hw2] at this
          rw [HYY.out]
          rw [hw1] at this
          simpa using this
        obtain ⟨z0, z1, z2, z3, z4, z5⟩ := rowv6 hX2
        obtain ⟨y0, y1, y2, y3, y4, y5⟩ := rowv6 hY2
        clear hX2 hY2
        go_enter Try.func44, Try.ntmps44
        go_upto_region 1 with fail
        rw [← hw1, ← hw2, ← HYY.out, ← HXX.out]
        clear hw1 hw2
        go_wp2_with fail
        refine (HCv.out w2 HA2.out).mono ?_
        rintro _ wn ⟨rfl, hwn⟩
        rw [hwn]
        clear hwn wn
        try dsimp only
        cases bv with
        | false =>
          have Hvv : Hid (v = false) := bool_f' HV.out (by simp)
          go_wp2_with fail
          go_ret
          exact ⟨by rw [Hvv.out]; rfl, HA2.out⟩
        | true =>
          have Hvv : Hid (v = bx) := by unfold Hid; rw [Bool.eq_iff_iff, HV.out]; simp
          go_wp2_with fail
          refine (HCx.out w2 HA2.out).mono ?_
          rintro _ w3 ⟨rfl, ha3⟩
          have HA3 : Hid (Apart [] w w3) := HA2.out.trans ha3
          clear ha3 z0 z1 z2 z3 z4 z5 y0 y1 y2 y3 y4 y5
          try dsimp only
          go_wp2_with fail
          go_ret
          exact ⟨by rw [Hvv.out]; rfl, HA3.out⟩
      · have hdb : (d1 == d2) = false := by simp [hd]
        obtain ⟨w1, hw1⟩ : ∃ w1, w1 = w.alloc (.cells #[.int .i64 n1, .int .i64 c1, .string k1, .bool d1, .slice v1.p v1.n v1.c, .slice x1.p x1.n x1.c] 50) := ⟨_, rfl⟩
        obtain ⟨w2, hw2⟩ : ∃ w2, w2 = w1.alloc (.cells #[.int .i64 n1, .int .i64 c1, .string k1, .bool d2, .slice v2.p v2.n v2.c, .slice x2.p x2.n x2.c] 50) := ⟨_, rfl⟩
        obtain ⟨X, HXX⟩ : ∃ X, Hid (X = w.heap.size) := ⟨_, rfl⟩
        obtain ⟨Y, HYY⟩ : ∃ Y, Hid (Y = w.heap.size + 1) := ⟨_, rfl⟩
        have HA2 : Hid (Apart [] w w2) := by unfold Hid; rw [hw2, hw1]; exact ((Apart.refl [] w).alloc _).alloc _
        have hX2 : w2.heap[X]? = some (.cells #[.int .i64 n1, .int .i64 c1, .string k1, .bool d1, .slice v1.p v1.n v1.c, .slice x1.p x1.n x1.c] 50 (0, 0)) := by rw [HXX.out, hw2, hw1]; exact (((Apart.refl [] _).alloc _).block _ (by simp) (by simp)).trans (heap_alloc_new w _)
        have hY2 : w2.heap[Y]? = some (.cells #[.int .i64 n1, .int .i64 c1, .string k1, .bool d2, .slice v2.p v2.n v2.c, .slice x2.p x2.n x2.c] 50 (0, 0)) := by
          have := heap_alloc_new w1 (.cells #[.int .i64 n1, .int .i64 c1, .string k1, .bool d2, .slice v2.p v2.n v2.c, .slice x2.p x2.n x2.c] 50)
          rw [← hw2] at this
          rw [HYY.out]
          rw [hw1] at this
          simpa using this
        obtain ⟨z0, z1, z2, z3, z4, z5⟩ := rowv6 hX2
        obtain ⟨y0, y1, y2, y3, y4, y5⟩ := rowv6 hY2
        clear hX2 hY2
        go_enter Try.func44, Try.ntmps44
        go_upto_region 1 with fail
        rw [← hw1, ← hw2, ← HYY.out, ← HXX.out]
        clear hw1 hw2
        have Hvv : Hid (v = false) := bool_f' HV.out (fun h => hd h.2.2.2.1)
        go_wp2_with fail
        go_ret
        exact ⟨by rw [Hvv.out]; rfl, HA2.out⟩
    · have hkb : (k1.toList == k2.toList) = false := by rw [beq_eq_false_iff_ne]; exact fun h => hk (toList_inj h)
      obtain ⟨w1, hw1⟩ : ∃ w1, w1 = w.alloc (.cells #[.int .i64 n1, .int .i64 c1, .string k1, .bool d1, .slice v1.p v1.n v1.c, .slice x1.p x1.n x1.c] 50) := ⟨_, rfl⟩
      obtain ⟨w2, hw2⟩ : ∃ w2, w2 = w1.alloc (.cells #[.int .i64 n1, .int .i64 c1, .string k2, .bool d2, .slice v2.p v2.n v2.c, .slice x2.p x2.n x2.c] 50) := ⟨_, rfl⟩
      obtain ⟨X, HXX⟩ : ∃ X, Hid (X = w.heap.size) := ⟨_, rfl⟩
      obtain ⟨Y, HYY⟩ : ∃ Y, Hid (Y = w.heap.size + 1) := ⟨_, rfl⟩
      have HA2 : Hid (Apart [] w w2) := by unfold Hid; rw [hw2, hw1]; exact ((Apart.refl [] w).alloc _).alloc _
      have hX2 : w2.heap[X]? = some (.cells #[.int .i64 n1, .int .i64 c1, .string k1, .bool d1, .slice v1.p v1.n v1.c, .slice x1.p x1.n x1.c] 50 (0, 0)) := by rw [HXX.out, hw2, hw1]; exact (((Apart.refl [] _).alloc _).block _ (by simp) (by simp)).trans (heap_alloc_new w _)
      have hY2 : w2.heap[Y]? = some (.cells #[.int .i64 n1, .int .i64 c1, .string k2, .bool d2, .slice v2.p v2.n v2.c, .slice x2.p x2.n x2.c] 50 (0, 0)) := by
        have := heap_alloc_new w1 (.cells #[.int .i64 n1, .int .i64 c1, .string k2, .bool d2, .slice v2.p v2.n v2.c, .slice x2.p x2.n x2.c] 50)
        rw [← hw2] at this
        rw [HYY.out]
        rw [hw1] at this
        simpa using this
      obtain ⟨z0, z1, z2, z3, z4, z5⟩ := rowv6 hX2
      obtain ⟨y0, y1, y2, y3, y4, y5⟩ := rowv6 hY2
      clear hX2 hY2
      go_enter Try.func44, Try.ntmps44
      go_upto_region 1 with fail
      rw [← hw1, ← hw2, ← HYY.out, ← HXX.out]
      clear hw1 hw2
      have Hvv : Hid (v = false) := bool_f' HV.out (fun h => hk h.2.2.1)
      go_wp2_with fail
      go_ret
      exact ⟨by rw [Hvv.out]; rfl, HA2.out⟩
  · skip
    obtain ⟨w1, hw1⟩ : ∃ w1, w1 = w.alloc (.cells #[.int .i64 n1, .int .i64 c1, .string k1, .bool d1, .slice v1.p v1.n v1.c, .slice x1.p x1.n x1.c] 50) := ⟨_, rfl⟩
    obtain ⟨w2, hw2⟩ : ∃ w2, w2 = w1.alloc (.cells #[.int .i64 n2, .int .i64 c2, .string k2, .bool d2, .slice v2.p v2.n v2.c, .slice x2.p x2.n x2.c] 50) := ⟨_, rfl⟩
    obtain ⟨X, HXX⟩ : ∃ X, Hid (X = w.heap.size) := ⟨_, rfl⟩
    obtain ⟨Y, HYY⟩ : ∃ Y, Hid (Y = w.heap.size + 1) := ⟨_, rfl⟩
    have HA2 : Hid (Apart [] w w2) := by unfold Hid; rw [hw2, hw1]; exact ((Apart.refl [] w).alloc _).alloc _
    have hX2 : w2.heap[X]? = some (.cells #[.int .i64 n1, .int .i64 c1, .string k1, .bool d1, .slice v1.p v1.n v1.c, .slice x1.p x1.n x1.c] 50 (0, 0)) := by rw [HXX.out, hw2, hw1]; exact (((Apart.refl [] _).alloc _).block _ (by simp) (by simp)).trans (heap_alloc_new w _)
    have hY2 : w2.heap[Y]? = some (.cells #[.int .i64 n2, .int .i64 c2, .string k2, .bool d2, .slice v2.p v2.n v2.c, .slice x2.p x2.n x2.c] 50 (0, 0)) := by
      have := heap_alloc_new w1 (.cells #[.int .i64 n2, .int .i64 c2, .string k2, .bool d2, .slice v2.p v2.n v2.c, .slice x2.p x2.n x2.c] 50)
      rw [← hw2] at this
      rw [HYY.out]
      rw [hw1] at this
      simpa using this
    obtain ⟨z0, z1, z2, z3, z4, z5⟩ := rowv6 hX2
    obtain ⟨y0, y1, y2, y3, y4, y5⟩ := rowv6 hY2
    clear hX2 hY2
    go_enter Try.func44, Try.ntmps44
    go_upto_region 1 with fail
    rw [← hw1, ← hw2, ← HYY.out, ← HXX.out]
    clear hw1 hw2
    have Hvv : Hid (v = false) := bool_f' HV.out (fun h => hn ⟨h.1, h.2.1⟩)
    go_wp2_with fail
    all_goals (go_ret; exact ⟨by rw [Hvv.out]; rfl, HA2.out⟩)
end Go.Proofs.Ytllhmidpphlbhaa.ds
namespace Go.Proofs.Ytllhmidpphlbhaa.ds
open Go.ChangeShapes Go.WideShapes Go.ChangeAt Go.RowKit Go.Sort
set_option linter.unusedVariables false
set_option linter.unusedSimpArgs false
/-- the mark behind a copy of spans -/
theorem app_mark {w W : World} {s : Sl} {xs : List S} (h : Nw w W 85 3 s (flat xs)) (hl : xs.length ≤ 2000000) :
    ∃ s' W', (Builtin.append_ #[48, 48] 48 #[.slice s.p s.n s.c, .slice (some ⟨W.heap.size, 0, none⟩) 1 1]).run Try.prog (W.alloc (Obj.cells #[.int .i64 (-71), .int .i64 (-72), .int .u64 0] 85)) = .ok (.slice s'.p s'.n s'.c) W' ∧ Nw w W' 85 3 s' (flat (xs ++ [mkS])) := by
  obtain ⟨i0, hif, hz0, hz1, hz2⟩ := info_parts info52
  have hlen : s.n = xs.length := by have := h.own.1; rw [flat_length] at this; omega
  obtain ⟨s5, w5, hrun, hnw5, hs5, ap5, k5, hk5, -, hk6⟩ := run_appM (s := s) 48 48 85 i0 _ 3 24 Try.underlying48 hif hz0 hz1 hz2 rfl (by decide) h 1 [.int .i64 (-71), .int .i64 (-72), .int .u64 0] (by decide) rfl (fun u hu => by simp at hu; rcases hu with rfl | rfl | rfl <;> rfl) (by unfold maxLen; omega) (by omega)
  exact ⟨s5, w5, hrun, by rw [flat_snoc]; exact hnw5⟩
theorem app_mark8 {w W : World} {s : Sl} {bs : List Nat} (h : Nw w W 5 1 s (byts bs)) (hl : bs.length ≤ 2000000) :
    ∃ s' W', (Builtin.append_ #[28, 28] 28 #[.slice s.p s.n s.c, .slice (some ⟨W.heap.size, 0, none⟩) 1 1]).run Try.prog (W.alloc (Obj.cells #[.int .u8 167] 5)) = .ok (.slice s'.p s'.n s'.c) W' ∧ Nw w W' 5 1 s' (byts (bs ++ [167])) := by
  have hlen : s.n = bs.length := by have := h.own.1; rw [byts_len] at this; omega
  obtain ⟨s', W', hrun, hb, _⟩ := app_byte (⟨h, hlen⟩ : Bf w W s bs) 167 (by omega)
  exact ⟨s', W', hrun, hb.nw⟩
/-- a set is lent -/
structure SetP (w W : World) (X : Nat) (sv sx : Sl) (vl xl : List Sl) (vb : List (List Nat)) (xb : List (List S)) (xs : List S) (r : Ending) (W' : World) : Prop where
  ex : ∃ (sx' t : Sl), r = .returned (.slice t.p xs.length t.c) ∧ LD w W' X 0 0 sv sx' vl (xl ++ [t]) vb (xb ++ [xs]) ∧ TK [48, 88] W W'
set_option maxHeartbeats 4000000 in
set_option maxRecDepth 100000 in
theorem lset_ok {w W : World} {X : Nat} {sv sx : Sl} {vl xl : List Sl} {vb : List (List Nat)} {xb : List (List S)} (h : LD w W X 0 0 sv sx vl xl vb xb) (l : Sl) (xs : List S) (hx : L W l.p l.n xs) (hn : l.n ≤ 2000000) (ok : l.ok) (hl : xl.length ≤ 2000000) : Calls Try.prog 63 #[.pointer (some ⟨X, 0, none⟩), .slice l.p l.n l.c] W fun r W' => SetP w W X sv sx vl xl vb xb xs r W' := by
  obtain ⟨s1, W1, hrun1, hn1, -⟩ := appS W l xs 48 hx hn ok
  have HR1 : Hid ((Builtin.append_ #[48, 48] 48 #[.slice none 0 0, .slice l.p l.n l.c]).run Try.prog W = .ok (.slice s1.p s1.n s1.c) W1) := hrun1
  obtain ⟨s2, W2, hrun2, hn2⟩ := app_mark hn1 (by rw [hx.len]; exact hn)
  have HR2 := hid hrun2
  have hxl : xs.length ≤ 2000000 := by rw [hx.len]; exact hn
  obtain ⟨e1, e2, e3, e4, e5⟩ := hn2.spans hx.fit hxl
  obtain ⟨s3, W3, hrun3, hX3, hL, htk⟩ := h.addX hn2.ap s2 xs hn2 e5 hl
  have HR3 := hid hrun3
  have HX2 := hid ((TK.of0 (ts := []) hn2.ap).block h.blk (by simp))
  have z1 : W2.cell? ⟨X, 1, none⟩ = some (.slice sx.p sx.n sx.c) := by rw [cell_of_row _ _ _ _ _ _ HX2.out]; rfl
  have y1 : W3.cell? ⟨X, 1, none⟩ = some (.slice sx.p sx.n sx.c) := by rw [cell_of_row _ _ _ _ _ _ hX3]; rfl
  have f1 := frozen_of_row _ _ 1 _ _ hX3
  have HL := hid hL
  have HT := hid htk
  have hcap : (l.n : Int) ≤ (s2.c : Int) := by rw [← hx.len]; omega
  have hcap' : l.n ≤ s2.c := by rw [← hx.len]; omega
  have HLE := hid hx.len
  have hmx : s2.c ≤ maxLen := by
    obtain ⟨_, _, _, _, _, _, _, _, _, hm⟩ := hn2.blk (by omega)
    exact hm
  obtain ⟨g, hg⟩ : ∃ g, s2.p = some ⟨g, 0, none⟩ := by
    obtain ⟨g, cur, hp, _⟩ := hn2.blk (by omega)
    exact ⟨g, hp⟩
  have HG := hid hg
  clear hrun1 hrun2 hrun3 hX3 hL htk hn1 hn2 e1 e2 e3 e4 e5 hx h hg
  unfold maxLen at hmx
  obtain ⟨p2, n2, c2⟩ := s2
  simp only at HR2 HR3 HG hcap hcap' hmx
  rw [HG.out] at HR2 HR3 HL
  go_enter Try.func63, Try.ntmps63
  go_upto_region 1 with fail
  go_wp2_with (at_builtin; first | refine wpList_app2 rfl (.const (.slice none 0 0)) (.tmp 6) 48 48 rfl _ _ rfl rfl _ _ HR1.out ?_ | refine wpList_app2 rfl (.tmp 8) (.tmp 10) 48 48 rfl _ _ rfl rfl _ _ HR2.out ?_ | refine wpList_app2 rfl (.tmp 16) (.tmp 18) 71 71 rfl _ _ rfl rfl _ _ HR3.out ?_)
  go_ret
  exact ⟨s3, ⟨some ⟨g, 0, none⟩, n2, c2⟩, by rw [HLE.out]; rfl, HL.out, HT.out⟩
end Go.Proofs.Ytllhmidpphlbhaa.ds
