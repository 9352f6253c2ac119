import Derived.Test.YtllhmidpphlbhaaX11
import Derived.Test.YtllhmidpphlbhaaX8
namespace Go.Proofs.Ytllhmidpphlbhaa.ds
open Go.ChangeShapes Go.WideShapes Go.ChangeAt Go.RowKit Go.Sort
set_option linter.unusedVariables false
set_option linter.unusedSimpArgs false

set_option maxHeartbeats 16000000 in
set_option maxRecDepth 100000 in
theorem alike_ok (w : World) (kd gn ow : Int) (s t s2 t2 : Sl) (ks ks2 : List Ck) (cs : List (Int × List S)) (es es2 : List E) (rs : List Wr) (h1 : RCs w s ks cs) (h2 : RCs w s2 ks2 cs) (h3 : RWs w t es rs) (h4 : RWs w t2 es2 rs) : Calls Try.prog 34 #[.agg #[.int .i64 kd, .int .i64 gn, .int .i64 ow, .slice s.p s.n s.c, .slice t.p t.n t.c], .agg #[.int .i64 kd, .int .i64 gn, .int .i64 ow, .slice s2.p s2.n s2.c, .slice t2.p t2.n t2.c]] w fun r w' => r = .returned (.bool true) ∧ Apart [] w w' := by
  obtain ⟨A, HXA⟩ : ∃ A, Hid (A = w.heap.size) := ⟨_, rfl⟩
  obtain ⟨w1, hw1⟩ : ∃ V, V = w.alloc (.cells #[.int .i64 kd, .int .i64 gn, .int .i64 ow, .slice s.p s.n s.c, .slice t.p t.n t.c] 25) := ⟨_, rfl⟩
  obtain ⟨D, HXD⟩ : ∃ A, Hid (A = w1.heap.size) := ⟨_, rfl⟩
  obtain ⟨w2, hw2⟩ : ∃ V, V = w1.alloc (.cells #[.int .i64 kd, .int .i64 gn, .int .i64 ow, .slice s2.p s2.n s2.c, .slice t2.p t2.n t2.c] 25) := ⟨_, rfl⟩
  have a1 : Apart [] w w1 := by rw [hw1]; exact (Apart.refl [] w).alloc _
  have a2 : Apart [] w1 w2 := by rw [hw2]; exact (Apart.refl [] w1).alloc _
  have hA1 : w1.heap[A]? = some (.cells #[.int .i64 kd, .int .i64 gn, .int .i64 ow, .slice s.p s.n s.c, .slice t.p t.n t.c] 25 (0, 0)) := by rw [hw1, HXA.out]; exact heap_alloc_new w _
  have hD2 : w2.heap[D]? = some (.cells #[.int .i64 kd, .int .i64 gn, .int .i64 ow, .slice s2.p s2.n s2.c, .slice t2.p t2.n t2.c] 25 (0, 0)) := by rw [hw2, HXD.out]; exact heap_alloc_new w1 _
  have heD : A + 1 = D := by rw [HXD.out, hw1, HXA.out]; exact (Array.size_push _).symm
  have hA2 := keep0 a2 hA1
  have HA2 := hid hA2
  have HD2 := hid hD2
  have HW2 := hid (a1.trans a2)
  obtain ⟨x0, x1, x2, x3, x4⟩ := row5v hA2
  obtain ⟨y0, y1, y2, y3, y4⟩ := row5v hD2
  have en1 : s2.n = s.n := by rw [← h1.cl, h2.cl]
  have en2 : t2.n = t.n := by rw [← h3.rl, h4.rl]
  have hn1 : (((s.n : Nat) : Int) != ((s2.n : Nat) : Int)) = false := by rw [en1]; simp
  have hn2 : (((t.n : Nat) : Int) != ((t2.n : Nat) : Int)) = false := by rw [en2]; simp
  have H1 := hid h1
  have H2 := hid h2
  have H3 := hid h3
  have H4 := hid h4
  have HEN1 := hid en1
  have HEN2 := hid en2
  have hl1 := h1.lim
  have hl3 := h3.lim
  clear a1 a2 hA1 hD2 hA2 h1 h2 h3 h4 en1 en2
  go_enter Try.func34, Try.ntmps34
  go_upto_region 1 with fail
  rw [← hw1, ← HXA.out, ← hw2, heD]
  clear hw1 hw2 heD
  go_wp2_with fail
  clear x0 x1 x2 x3 x4 y0 y1 y2 y3 y4 hn1 hn2
  go_loopw [5] (fun b wt => ∃ i : Nat, b = .int .i64 (i : Nat) ∧ i ≤ s.n ∧ Apart [] w2 wt) (fun b _ => s.n - (intOf b).toNat)
  case atStart => exact ⟨0, rfl, Nat.zero_le _, Apart.refl _ _⟩
  case round =>
    obtain ⟨i, rfl, hile, hap⟩ := hrel
    have HAP := hid hap
    have x3 := crow (keep0 hap HA2.out) 3 (.slice s.p s.n s.c) rfl
    clear hap
    by_cases hlt : i < s.n
    · have hlti : ((i : Nat) : Int) < (s.n : Int) := by omega
      have hlt2 : ((i : Nat) : Int) < (s2.n : Int) := by have := HEN1.out; omega
      obtain ⟨P, o, hP, -⟩ := H1.out.cells i hlt
      obtain ⟨Q, q, hQ, -⟩ := H2.out.cells i (by have := HEN1.out; omega)
      have HCL : Hid (∀ W, Apart [] w2 W → W.cell? ⟨A, 3, none⟩ = some (.slice (some ⟨P, o, none⟩) s.n s.c) ∧ W.cell? ⟨D, 3, none⟩ = some (.slice (some ⟨Q, q, none⟩) s2.n s2.c) ∧ (W.cell? ⟨P, o + i * 2, none⟩ = some (.int .i64 (gC cs i).1) ∧ W.cell? ⟨P, o + i * 2 + 1, none⟩ = some (.slice (gK ks i).s.p (gK ks i).s.n (gK ks i).s.c)) ∧ W.cell? ⟨Q, q + i * 2, none⟩ = some (.int .i64 (gC cs i).1) ∧ W.cell? ⟨Q, q + i * 2 + 1, none⟩ = some (.slice (gK ks2 i).s.p (gK ks2 i).s.n (gK ks2 i).s.c)) := fun W hW => by
        obtain ⟨P', o', hP', _, c0, c1⟩ := (H1.out.kept0 (HW2.out.trans hW)).cells i hlt
        obtain ⟨Q', q', hQ', _, d0, d1⟩ := (H2.out.kept0 (HW2.out.trans hW)).cells i (by have := HEN1.out; omega)
        rw [hP] at hP'
        rw [hQ] at hQ'
        simp at hP' hQ'
        obtain ⟨rfl, rfl⟩ := hP'
        obtain ⟨rfl, rfl⟩ := hQ'
        rw [(H1.out.each i hlt).1] at c0
        rw [(H2.out.each i (by have := HEN1.out; omega)).1] at d0
        exact ⟨by rw [← hP]; exact crow (keep0 hW HA2.out) 3 _ rfl, by rw [← hQ]; exact crow (keep0 hW HD2.out) 3 _ rfl, ⟨c0, c1⟩, d0, d1⟩
      have HCALL : Hid (∀ W, Apart [] w2 W → Calls Try.prog 57 #[.slice (gK ks i).s.p (gK ks i).s.n (gK ks i).s.c, .slice (gK ks2 i).s.p (gK ks2 i).s.n (gK ks2 i).s.c] W fun r w' => r = .returned (.bool true) ∧ Apart [] W w') := fun W hW => spans_ok ((H1.out.each i hlt).2.1.kept0 (HW2.out.trans hW)) ((H2.out.each i (by have := HEN1.out; omega)).2.1.kept0 (HW2.out.trans hW)) true (by simp)
      rw [hP] at x3
      clear hP hQ
      generalize gK ks i = k1 at *
      generalize gK ks2 i = k2 at *
      have hAd := HAP.out.drew
      go_upto_region 6 with fail
      refine wp_region_held_drew (S := fun W => Apart [] w2 W) (by kernel_rfl) hAd (fun hHeld => ?_)
      generalize wr.drew = wd at *
      clear x3
      refine tk 0 51 (.pointer (some ⟨A, 3, none⟩)) rfl ?_ ?_
      · intro W hSW; go_simp
      simp only [Act.put, List.setIfInBounds_toArray, List.set_cons_zero, List.set_cons_succ]
      refine tk 1 52 (.slice (some ⟨P, o, none⟩) s.n s.c) rfl ?_ ?_
      · intro W hSW; obtain ⟨a3, b3, ⟨c0, c1⟩, d0, d1⟩ := HCL.out W hSW; go_simp
      simp only [Act.put, List.setIfInBounds_toArray, List.set_cons_zero, List.set_cons_succ]
      refine tk 2 53 (.int .i64 (i : Nat)) rfl ?_ ?_
      · intro W hSW; go_simp
      simp only [Act.put, List.setIfInBounds_toArray, List.set_cons_zero, List.set_cons_succ]
      refine tk 3 54 (.pointer (some ⟨P, o + i * 2, none⟩)) rfl ?_ ?_
      · intro W hSW; go_simp
      simp only [Act.put, List.setIfInBounds_toArray, List.set_cons_zero, List.set_cons_succ]
      refine tk 4 55 (.pointer (some ⟨P, o + i * 2, none⟩)) rfl ?_ ?_
      · intro W hSW; go_simp
      simp only [Act.put, List.setIfInBounds_toArray, List.set_cons_zero, List.set_cons_succ]
      refine tk 5 56 (.int .i64 (gC cs i).1) rfl ?_ ?_
      · intro W hSW; obtain ⟨a3, b3, ⟨c0, c1⟩, d0, d1⟩ := HCL.out W hSW; go_simp
      simp only [Act.put, List.setIfInBounds_toArray, List.set_cons_zero, List.set_cons_succ]
      refine tk 6 57 (.pointer (some ⟨D, 3, none⟩)) rfl ?_ ?_
      · intro W hSW; go_simp
      simp only [Act.put, List.setIfInBounds_toArray, List.set_cons_zero, List.set_cons_succ]
      refine tk 7 58 (.slice (some ⟨Q, q, none⟩) s2.n s2.c) rfl ?_ ?_
      · intro W hSW; obtain ⟨a3, b3, ⟨c0, c1⟩, d0, d1⟩ := HCL.out W hSW; go_simp
      simp only [Act.put, List.setIfInBounds_toArray, List.set_cons_zero, List.set_cons_succ]
      refine tk 8 59 (.int .i64 (i : Nat)) rfl ?_ ?_
      · intro W hSW; go_simp
      simp only [Act.put, List.setIfInBounds_toArray, List.set_cons_zero, List.set_cons_succ]
      refine tk 9 60 (.pointer (some ⟨Q, q + i * 2, none⟩)) rfl ?_ ?_
      · intro W hSW; go_simp
      simp only [Act.put, List.setIfInBounds_toArray, List.set_cons_zero, List.set_cons_succ]
      refine tk 10 61 (.pointer (some ⟨Q, q + i * 2, none⟩)) rfl ?_ ?_
      · intro W hSW; go_simp
      simp only [Act.put, List.setIfInBounds_toArray, List.set_cons_zero, List.set_cons_succ]
      refine tk 11 62 (.int .i64 (gC cs i).1) rfl ?_ ?_
      · intro W hSW; obtain ⟨a3, b3, ⟨c0, c1⟩, d0, d1⟩ := HCL.out W hSW; go_simp
      simp only [Act.put, List.setIfInBounds_toArray, List.set_cons_zero, List.set_cons_succ]
      refine tk 12 63 (.bool false) rfl ?_ ?_
      · intro W hSW; go_simp
      simp only [Act.put, List.setIfInBounds_toArray, List.set_cons_zero, List.set_cons_succ]
      refine tk 13 64 (.bool false) rfl ?_ ?_
      · intro W hSW; go_simp
      simp only [Act.put, List.setIfInBounds_toArray, List.set_cons_zero, List.set_cons_succ]
      refine tk 14 65 (.pointer (some ⟨A, 3, none⟩)) rfl ?_ ?_
      · intro W hSW; go_simp
      simp only [Act.put, List.setIfInBounds_toArray, List.set_cons_zero, List.set_cons_succ]
      refine tk 15 66 (.slice (some ⟨P, o, none⟩) s.n s.c) rfl ?_ ?_
      · intro W hSW; obtain ⟨a3, b3, ⟨c0, c1⟩, d0, d1⟩ := HCL.out W hSW; go_simp
      simp only [Act.put, List.setIfInBounds_toArray, List.set_cons_zero, List.set_cons_succ]
      refine tk 16 67 (.int .i64 (i : Nat)) rfl ?_ ?_
      · intro W hSW; go_simp
      simp only [Act.put, List.setIfInBounds_toArray, List.set_cons_zero, List.set_cons_succ]
      refine tk 17 68 (.pointer (some ⟨P, o + i * 2, none⟩)) rfl ?_ ?_
      · intro W hSW; go_simp
      simp only [Act.put, List.setIfInBounds_toArray, List.set_cons_zero, List.set_cons_succ]
      refine tk 18 69 (.pointer (some ⟨P, o + i * 2 + 1, none⟩)) rfl ?_ ?_
      · intro W hSW; go_simp
      simp only [Act.put, List.setIfInBounds_toArray, List.set_cons_zero, List.set_cons_succ]
      refine tk 19 70 (.slice k1.s.p k1.s.n k1.s.c) rfl ?_ ?_
      · intro W hSW; obtain ⟨a3, b3, ⟨c0, c1⟩, d0, d1⟩ := HCL.out W hSW; go_simp
      simp only [Act.put, List.setIfInBounds_toArray, List.set_cons_zero, List.set_cons_succ]
      refine tk 20 71 (.pointer (some ⟨D, 3, none⟩)) rfl ?_ ?_
      · intro W hSW; go_simp
      simp only [Act.put, List.setIfInBounds_toArray, List.set_cons_zero, List.set_cons_succ]
      refine tk 21 72 (.slice (some ⟨Q, q, none⟩) s2.n s2.c) rfl ?_ ?_
      · intro W hSW; obtain ⟨a3, b3, ⟨c0, c1⟩, d0, d1⟩ := HCL.out W hSW; go_simp
      simp only [Act.put, List.setIfInBounds_toArray, List.set_cons_zero, List.set_cons_succ]
      refine tk 22 73 (.int .i64 (i : Nat)) rfl ?_ ?_
      · intro W hSW; go_simp
      simp only [Act.put, List.setIfInBounds_toArray, List.set_cons_zero, List.set_cons_succ]
      refine tk 23 74 (.pointer (some ⟨Q, q + i * 2, none⟩)) rfl ?_ ?_
      · intro W hSW; go_simp
      simp only [Act.put, List.setIfInBounds_toArray, List.set_cons_zero, List.set_cons_succ]
      refine tk 24 75 (.pointer (some ⟨Q, q + i * 2 + 1, none⟩)) rfl ?_ ?_
      · intro W hSW; go_simp
      simp only [Act.put, List.setIfInBounds_toArray, List.set_cons_zero, List.set_cons_succ]
      refine tk 25 76 (.slice k2.s.p k2.s.n k2.s.c) rfl ?_ ?_
      · intro W hSW; obtain ⟨a3, b3, ⟨c0, c1⟩, d0, d1⟩ := HCL.out W hSW; go_simp
      simp only [Act.put, List.setIfInBounds_toArray, List.set_cons_zero, List.set_cons_succ]
      refine wpAnyH_ready (rs := [26]) (by kernel_rfl) (by simp) ?_
      refine AllReadyH.cons rfl (fun KK hKK => ?_) AllReadyH.nil
      go_simp
      refine (HCALL.out _ hHeld).mono ?_
      rintro _ wa ⟨rfl, ha⟩
      have hSa := hHeld.trans ha
      have HSa := hid hSa
      clear ha
      try dsimp only
      refine hKK.out _ _ hSa (fun hHeld => ?_)
      clear hKK KK
      try simp only [Act.put, List.setIfInBounds_toArray, List.set_cons_zero, List.set_cons_succ]
      refine tk 27 78 (.bool false) rfl ?_ ?_
      · intro W hSW; go_simp
      simp only [Act.put, List.setIfInBounds_toArray, List.set_cons_zero, List.set_cons_succ]
      refine tk 28 79 (.bool false) rfl ?_ ?_
      · intro W hSW; go_simp
      simp only [Act.put, List.setIfInBounds_toArray, List.set_cons_zero, List.set_cons_succ]
      refine wpAnyH_done (by kernel_rfl) ?_ _
      clear hHeld hSa hAd
      go_wp2_with fail
      go_roundw
      case rel => exact ⟨i + 1, by go_num, by omega, HSa.out⟩
      case measure => simp [intOf]; omega
    · have hlti : ¬ ((i : Nat) : Int) < (s.n : Int) := by omega
      go_wp2_with fail
      clear x3
      go_loopw [6] (fun b wt => ∃ i : Nat, b = .int .i64 (i : Nat) ∧ i ≤ t.n ∧ Apart [] w2 wt) (fun b _ => t.n - (intOf b).toNat)
      case atStart => exact ⟨0, rfl, Nat.zero_le _, HAP.out⟩
      case round =>
        clear HAP hlti hile hlt
        obtain ⟨i, rfl, hile, hap⟩ := hrel
        have HAP := hid hap
        have x4 := crow (keep0 hap HA2.out) 4 (.slice t.p t.n t.c) rfl
        clear hap
        by_cases hlt : i < t.n
        · have hlti : ((i : Nat) : Int) < (t.n : Int) := by omega
          have hlt2 : ((i : Nat) : Int) < (t2.n : Int) := by have := HEN2.out; omega
          obtain ⟨P, o, hP, -⟩ := H3.out.cells i hlt
          obtain ⟨Q, q, hQ, -⟩ := H4.out.cells i (by have := HEN2.out; omega)
          obtain ⟨e0, He0⟩ : ∃ e, Hid (e = gE es i) := ⟨_, rfl⟩
          obtain ⟨e1, He1⟩ : ∃ e, Hid (e = gE es2 i) := ⟨_, rfl⟩
          have HCL : Hid (∀ W, Apart [] w2 W → W.cell? ⟨A, 4, none⟩ = some (.slice (some ⟨P, o, none⟩) t.n t.c) ∧ W.cell? ⟨D, 4, none⟩ = some (.slice (some ⟨Q, q, none⟩) t2.n t2.c) ∧ (W.cell? ⟨P, o + i * 6, none⟩ = some (.int .i64 e0.n) ∧ W.cell? ⟨P, o + i * 6 + 1, none⟩ = some (.int .i64 e0.c) ∧ W.cell? ⟨P, o + i * 6 + 2, none⟩ = some (.string e0.k) ∧ W.cell? ⟨P, o + i * 6 + 3, none⟩ = some (.bool e0.d) ∧ W.cell? ⟨P, o + i * 6 + 4, none⟩ = some (.slice e0.v.p e0.v.n e0.v.c) ∧ W.cell? ⟨P, o + i * 6 + 5, none⟩ = some (.slice e0.x.p e0.x.n e0.x.c)) ∧ W.cell? ⟨Q, q + i * 6, none⟩ = some (.int .i64 e1.n) ∧ W.cell? ⟨Q, q + i * 6 + 1, none⟩ = some (.int .i64 e1.c) ∧ W.cell? ⟨Q, q + i * 6 + 2, none⟩ = some (.string e1.k) ∧ W.cell? ⟨Q, q + i * 6 + 3, none⟩ = some (.bool e1.d) ∧ W.cell? ⟨Q, q + i * 6 + 4, none⟩ = some (.slice e1.v.p e1.v.n e1.v.c) ∧ W.cell? ⟨Q, q + i * 6 + 5, none⟩ = some (.slice e1.x.p e1.x.n e1.x.c)) := fun W hW => by
            obtain ⟨P', o', hP', _, c0, c1, c2, c3, c4, c5⟩ := (H3.out.kept0 (HW2.out.trans hW)).cells i hlt
            obtain ⟨Q', q', hQ', _, d0, d1, d2, d3, d4, d5⟩ := (H4.out.kept0 (HW2.out.trans hW)).cells i (by have := HEN2.out; omega)
            rw [hP] at hP'
            rw [hQ] at hQ'
            simp at hP' hQ'
            obtain ⟨rfl, rfl⟩ := hP'
            obtain ⟨rfl, rfl⟩ := hQ'
            rw [← He0.out] at c0 c1 c2 c3 c4 c5
            rw [← He1.out] at d0 d1 d2 d3 d4 d5
            exact ⟨by rw [← hP]; exact crow (keep0 hW HA2.out) 4 _ rfl, by rw [← hQ]; exact crow (keep0 hW HD2.out) 4 _ rfl, ⟨c0, c1, c2, c3, c4, c5⟩, d0, d1, d2, d3, d4, d5⟩
          have HCALL : Hid (∀ W, Apart [] w2 W → Calls Try.prog 44 #[.agg #[.int .i64 e0.n, .int .i64 e0.c, .string e0.k, .bool e0.d, .slice e0.v.p e0.v.n e0.v.c, .slice e0.x.p e0.x.n e0.x.c], .agg #[.int .i64 e1.n, .int .i64 e1.c, .string e1.k, .bool e1.d, .slice e1.v.p e1.v.n e1.v.c, .slice e1.x.p e1.x.n e1.x.c]] W fun r w' => r = .returned (.bool true) ∧ Apart [] W w') := fun W hW => by
            rw [He1.out, He0.out]
            exact lwrites_ok _ _ (gR rs i) (gR rs i) ((H3.out.each i hlt).kept0 (HW2.out.trans hW)) ((H4.out.each i (by have := HEN2.out; omega)).kept0 (HW2.out.trans hW)) true (by simp)
          rw [hP] at x4
          clear hP hQ
          have hAd := HAP.out.drew
          go_upto_region 11 with fail
          refine wp_region_held_drew (S := fun W => Apart [] w2 W) (by kernel_rfl) hAd (fun hHeld => ?_)
          generalize wr.drew = wd at *
          clear x4
          refine tk 0 87 (.pointer (some ⟨A, 4, none⟩)) rfl ?_ ?_
          · intro W hSW; go_simp
          simp only [Act.put, List.setIfInBounds_toArray, List.set_cons_zero, List.set_cons_succ]
          refine tk 1 88 (.slice (some ⟨P, o, none⟩) t.n t.c) rfl ?_ ?_
          · intro W hSW; obtain ⟨a4, b4, ⟨c0, c1, c2, c3, c4, c5⟩, d0, d1, d2, d3, d4, d5⟩ := HCL.out W hSW; go_simp
          simp only [Act.put, List.setIfInBounds_toArray, List.set_cons_zero, List.set_cons_succ]
          refine tk 2 89 (.int .i64 (i : Nat)) rfl ?_ ?_
          · intro W hSW; go_simp
          simp only [Act.put, List.setIfInBounds_toArray, List.set_cons_zero, List.set_cons_succ]
          refine tk 3 90 (.pointer (some ⟨P, o + i * 6, none⟩)) rfl ?_ ?_
          · intro W hSW; go_simp
          simp only [Act.put, List.setIfInBounds_toArray, List.set_cons_zero, List.set_cons_succ]
          refine tk 4 91 (.agg #[.int .i64 e0.n, .int .i64 e0.c, .string e0.k, .bool e0.d, .slice e0.v.p e0.v.n e0.v.c, .slice e0.x.p e0.x.n e0.x.c]) rfl ?_ ?_
          · intro W hSW; obtain ⟨a4, b4, ⟨c0, c1, c2, c3, c4, c5⟩, d0, d1, d2, d3, d4, d5⟩ := HCL.out W hSW; go_simp
          simp only [Act.put, List.setIfInBounds_toArray, List.set_cons_zero, List.set_cons_succ]
          refine tk 5 92 (.pointer (some ⟨D, 4, none⟩)) rfl ?_ ?_
          · intro W hSW; go_simp
          simp only [Act.put, List.setIfInBounds_toArray, List.set_cons_zero, List.set_cons_succ]
          refine tk 6 93 (.slice (some ⟨Q, q, none⟩) t2.n t2.c) rfl ?_ ?_
          · intro W hSW; obtain ⟨a4, b4, ⟨c0, c1, c2, c3, c4, c5⟩, d0, d1, d2, d3, d4, d5⟩ := HCL.out W hSW; go_simp
          simp only [Act.put, List.setIfInBounds_toArray, List.set_cons_zero, List.set_cons_succ]
          refine tk 7 94 (.int .i64 (i : Nat)) rfl ?_ ?_
          · intro W hSW; go_simp
          simp only [Act.put, List.setIfInBounds_toArray, List.set_cons_zero, List.set_cons_succ]
          refine tk 8 95 (.pointer (some ⟨Q, q + i * 6, none⟩)) rfl ?_ ?_
          · intro W hSW; go_simp
          simp only [Act.put, List.setIfInBounds_toArray, List.set_cons_zero, List.set_cons_succ]
          refine tk 9 96 (.agg #[.int .i64 e1.n, .int .i64 e1.c, .string e1.k, .bool e1.d, .slice e1.v.p e1.v.n e1.v.c, .slice e1.x.p e1.x.n e1.x.c]) rfl ?_ ?_
          · intro W hSW; obtain ⟨a4, b4, ⟨c0, c1, c2, c3, c4, c5⟩, d0, d1, d2, d3, d4, d5⟩ := HCL.out W hSW; go_simp
          simp only [Act.put, List.setIfInBounds_toArray, List.set_cons_zero, List.set_cons_succ]
          refine wpAnyH_ready (rs := [10]) (by kernel_rfl) (by simp) ?_
          refine AllReadyH.cons rfl (fun KK hKK => ?_) AllReadyH.nil
          go_simp
          refine (HCALL.out _ hHeld).mono ?_
          rintro _ wa ⟨rfl, ha⟩
          have hSa := hHeld.trans ha
          have HSa := hid hSa
          clear ha
          try dsimp only
          refine hKK.out _ _ hSa (fun hHeld => ?_)
          clear hKK KK
          try simp only [Act.put, List.setIfInBounds_toArray, List.set_cons_zero, List.set_cons_succ]
          refine tk 11 98 (.bool false) rfl ?_ ?_
          · intro W hSW; go_simp
          simp only [Act.put, List.setIfInBounds_toArray, List.set_cons_zero, List.set_cons_succ]
          refine wpAnyH_done (by kernel_rfl) ?_ _
          clear hHeld hSa hAd
          go_wp2_with fail
          go_roundw
          case rel => exact ⟨i + 1, by go_num, by omega, HSa.out⟩
          case measure => simp [intOf]; omega
        · have hlti : ¬ ((i : Nat) : Int) < (t.n : Int) := by omega
          go_wp2_with fail
          go_ret
          exact ⟨rfl, HW2.out.trans HAP.out⟩
end Go.Proofs.Ytllhmidpphlbhaa.ds
