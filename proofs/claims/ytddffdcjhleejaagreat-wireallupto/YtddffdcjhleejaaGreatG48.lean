import Derived.Test.YtddffdcjhleejaaGreatG1
import Derived.Test.YtddffdcjhleejaaGreatG47
import Derived.Test.YtddffdcjhleejaaGreatG33
namespace Go.Proofs.YtddffdcjhleejaaGreat.ds
open Go.ChangeShapes Go.WideShapes Go.ChangeAt Go.RowKit Go.Sort
set_option linter.unusedVariables false
set_option linter.unusedSimpArgs false
theorem WX.reads {wB w : World} {e : E} {r : Wr} (h : WX wB w e r) : Reads w e r :=
  ⟨h.n, h.c, h.k, h.d, h.v.rd, h.vn, h.vl, h.vb, ⟨Sp.of_rd h.x.rd, h.xn, by have := h.xl; omega, h.xf⟩, h.xl, h.vo, h.x.ok⟩
theorem WX.oth {wB w w' : World} {e : E} {r : Wr} {X : Nat} {cur : Array Value} {t : Nat} (h : WX wB w e r) (a : Apart [X] w w') (hX : w.heap[X]? = some (.cells cur t (0, 0))) (ht : t ≠ 5 ∧ t ≠ 48) (hn : wB.heap.size ≤ X) : WX wB w' e r :=
  { h with v := h.v.kept a (by intro k hk cu m e; simp at hk; rw [hk, hX] at e; simp at e; exact ht.1 e.2.1), x := h.x.keepT a (h.x.ap.trans' a (by intro y hy; simp at hy; rw [hy]; exact .inr hn)) (by intro k hk cu e; simp at hk; rw [hk, hX] at e; simp at e; exact ht.2 e.2) }
theorem WX.kept {wB w w' : World} {e : E} {r : Wr} (h : WX wB w e r) (a : Apart [] w w') : WX wB w' e r :=
  { h with v := h.v.kept a (by simp), x := h.x.kept a }
set_option maxHeartbeats 4000000 in
set_option maxRecDepth 100000 in
theorem rgetWrite_bad (w : World) (p : Option Addr) (N c : Nat) (q : Int) (hq : q < 0 ∨ (N : Int) < q) :
    Calls Tryz.prog 30 #[.slice p N c, .int .i64 q] w fun e w' => Apart [] w w' ∧ e = .returned (.tuple #[.agg zE, .int .i64 0, .int .i64 1]) := by
  obtain ⟨w0, hw0⟩ : ∃ w0, w0 = w.alloc (.cells #[.int .i64 0, .int .i64 0, .string ⟨#[]⟩, .bool false, .slice none 0 0, .slice none 0 0] 37) := ⟨_, rfl⟩
  have hA : Apart [] w w0 := by rw [hw0]; exact (Apart.refl [] w).alloc _
  have hG : w0.heap[w.heap.size]? = some (.cells #[.int .i64 0, .int .i64 0, .string ⟨#[]⟩, .bool false, .slice none 0 0, .slice none 0 0] 37 (0, 0)) := by rw [hw0]; exact heap_alloc_new w _
  have HA := hid hA
  have HG := hid hG
  clear hA hG
  by_cases h1 : q < 0
  · go_enter Tryz.func30, Tryz.ntmps30
    go_wp2_with fail
    rw [← hw0]
    obtain ⟨k0, k1, k2, k3, k4, k5⟩ := row6 HG.out
    refine bodyPost_ret (v := .tuple #[.agg zE, .int .i64 0, .int .i64 1]) ?_ rfl ⟨HA.out, rfl⟩
    simp [results, Tryz.results30, go_sem, zE, k0, k1, k2, k3, k4, k5]
  · have h2 : q > (N : Int) := by omega
    go_enter Tryz.func30, Tryz.ntmps30
    go_wp2_with fail
    rw [← hw0]
    obtain ⟨k0, k1, k2, k3, k4, k5⟩ := row6 HG.out
    refine bodyPost_ret (v := .tuple #[.agg zE, .int .i64 0, .int .i64 1]) ?_ rfl ⟨HA.out, rfl⟩
    simp [results, Tryz.results30, go_sem, zE, k0, k1, k2, k3, k4, k5]
set_option maxHeartbeats 8000000 in
set_option maxRecDepth 100000 in
theorem rgetWrite_ok {w : World} {p : Option Addr} {N c : Nat} {B : List Nat} (h : RBs w ⟨p, N, c⟩ B) (hlim : N ≤ 1000000) (hcap : N ≤ c) (q : Nat) (hq : q ≤ N) :
    Calls Tryz.prog 30 #[.slice p N c, .int .i64 (q : Nat)] w fun e w' => RdP w w' e (rlone B q) (.agg zE) (VX w) := by
  have h1 : ¬ ((q : Nat) : Int) < 0 := by omega
  have h2 : ¬ ((q : Nat) : Int) > (N : Int) := by omega
  obtain ⟨G, HG⟩ : ∃ G, Hid (G = w.heap.size) := ⟨_, rfl⟩
  obtain ⟨R, HR⟩ : ∃ R, Hid (R = w.heap.size + 1) := ⟨_, rfl⟩
  obtain ⟨w0, hw0⟩ : ∃ w0, w0 = w.alloc (.cells #[.int .i64 0, .int .i64 0, .string ⟨#[]⟩, .bool false, .slice none 0 0, .slice none 0 0] 37) := ⟨_, rfl⟩
  obtain ⟨w1, hw1⟩ : ∃ w1, w1 = w0.alloc (.cells #[.slice p N c, .int .i64 (q : Nat), .int .i64 (-1)] 100) := ⟨_, rfl⟩
  have hs0 : w0.heap.size = w.heap.size + 1 := by rw [hw0]; simp
  have HR2 : Hid (R = w0.heap.size) := by unfold Hid; rw [HR.out, hs0]
  have HA0 : Hid (Apart [] w w0) := by unfold Hid; rw [hw0]; exact (Apart.refl [] w).alloc _
  have HA1 : Hid (Apart [] w0 w1) := by unfold Hid; rw [hw1]; exact (Apart.refl [] w0).alloc _
  have HG1 : Hid (w1.heap[G]? = some (.cells #[.int .i64 0, .int .i64 0, .string ⟨#[]⟩, .bool false, .slice none 0 0, .slice none 0 0] 37 (0, 0))) := by
    have : w0.heap[G]? = some (.cells #[.int .i64 0, .int .i64 0, .string ⟨#[]⟩, .bool false, .slice none 0 0, .slice none 0 0] 37 (0, 0)) := by rw [HG.out, hw0]; exact heap_alloc_new w _
    exact (HA1.out.block _ (lt_of_heap this) (by simp)).trans this
  have HR1 : Hid (w1.heap[R]? = some (.cells #[.slice p N c, .int .i64 (q : Nat), .int .i64 (-1)] 100 (0, 0))) := by unfold Hid; rw [HR2.out, hw1]; exact heap_alloc_new w0 _
  have HRX := hid (h.readerX hlim hcap (HA0.out.trans HA1.out) HR1.out (by rw [HR.out]; omega) hq)
  have HC := hid (rwriteX_ok HRX.out 0 0 ⟨#[]⟩ ⟨none, 0, 0⟩ (.inl ⟨rfl, rfl, rfl⟩))
  clear h hq hs0
  go_enter Tryz.func30, Tryz.ntmps30
  go_wp2_with fail
  rw [← hw0, ← hw1, ← HR.out, ← HG.out]
  clear hw0 hw1
  refine HC.out.mono ?_
  rintro e w2 ⟨ha2, hm⟩
  have hrr : rwrite B q 0 0 ⟨#[]⟩ = rlone B q := rfl
  rw [hrr] at hm
  have HGR : Hid (G ≠ R) := by unfold Hid; rw [HG.out, HR.out]; omega
  have HG2 : Hid (w2.heap[G]? = some (.cells #[.int .i64 0, .int .i64 0, .string ⟨#[]⟩, .bool false, .slice none 0 0, .slice none 0 0] 37 (0, 0))) := (ha2.block _ (lt_of_heap HG1.out) (by have := HGR.out; simpa using this)).trans HG1.out
  have HA2 : Hid (Apart [] w w2) := (HA0.out.trans HA1.out).trans' ha2 (by intro y hy; simp at hy; rw [hy, HR.out]; exact .inr (by omega))
  clear ha2 HC
  cases hr : rlone B q with
  | error x =>
    rw [hr] at hm
    obtain ⟨⟨v, rfl, e0, rfl⟩, q2, hq2⟩ := hm
    have HRR := hid hr
    have HQ2 := hid hq2
    have hx0 : ((x : Nat) : Int) ≥ 0 := by omega
    clear hr hq2
    unfold aggE
    try dsimp only
    obtain ⟨w3, Hw3⟩ : ∃ w3, Hid (w3 = w2.alloc (.cells #[.int .i64 e0.n, .int .i64 e0.c, .string e0.k, .bool e0.d, .slice e0.v.p e0.v.n e0.v.c, .slice e0.x.p e0.x.n e0.x.c] 37)) := ⟨_, rfl⟩
    have HS3 : Hid (Apart [] w2 w3) := by unfold Hid; rw [Hw3.out]; exact (Apart.refl [] w2).alloc _
    have HG3 := hid ((HS3.out.block _ (lt_of_heap HG2.out) (by simp)).trans HG2.out)
    have HQ3 := hid (HQ2.out.kept HS3.out)
    have HA3 : Hid (Apart [] w w3) := HA2.out.trans HS3.out
    obtain ⟨z0, z1, z2, z3, z4⟩ := HQ3.out.cells
    have hz2 := z2
    rw [Hw3.out] at z0 z1 z2 z3 z4
    go_upto_region 6 with fail
    rw [← Hw3.out]
    clear z0 z1 z2 z3 z4
    have HRl : Hid (R < w3.heap.size) := lt_of_heap HQ3.out.blk
    have HGd : Hid (w3.drew.heap[G]? = some (.cells #[.int .i64 0, .int .i64 0, .string ⟨#[]⟩, .bool false, .slice none 0 0, .slice none 0 0] 37 (0, 0))) := HG3.out
    have HAd : Hid (Apart [] w w3.drew) := HA3.out.drew
    have HD : Hid (Apart [] w3 w3.drew) := (Apart.refl [] w3).drew
    refine wp_region_held_drew (S := fun W => W.cell? ⟨R, 2, none⟩ = some (.int .i64 (x : Nat))) (by kernel_rfl) hz2 (fun hHeld => ?_)
    have HRl2 : Hid (R < w3.drew.heap.size) := HRl.out
    generalize w3.drew = wd at *
    refine tkn 0 29 (.agg #[.int .i64 0, .int .i64 0, .string ⟨#[]⟩, .bool false, .slice none 0 0, .slice none 0 0]) rfl ?_ ?_
    · intro W hSW; go_simp
    refine tkn 1 30 (.pointer (some ⟨R, 0, none⟩)) rfl ?_ ?_
    · intro W hSW; go_simp
    refine tkn 2 31 (.pointer (some ⟨R, 0, none⟩)) rfl ?_ ?_
    · intro W hSW; go_simp
    refine tkn 3 32 (.pointer (some ⟨R, 2, none⟩)) rfl ?_ ?_
    · intro W hSW; go_simp
    refine tkn 4 33 (.int .i64 (x : Nat)) rfl ?_ ?_
    · intro W hSW; go_simp
    obtain ⟨w4, Hww4⟩ : ∃ w4, Hid (w4 = ((((((wd.setCell ⟨G, 0, none⟩ (.int .i64 0)).setCell ⟨G, 1, none⟩ (.int .i64 0)).setCell ⟨G, 2, none⟩ (.string ⟨#[]⟩)).setCell ⟨G, 3, none⟩ (.bool false)).setCell ⟨G, 4, none⟩ (.slice none 0 0)).setCell ⟨G, 5, none⟩ (.slice none 0 0))) := ⟨_, rfl⟩
    have HGw4 : Hid (w4.heap[G]? = some (.cells #[.int .i64 0, .int .i64 0, .string ⟨#[]⟩, .bool false, .slice none 0 0, .slice none 0 0] 37 (0, 0))) := by
      unfold Hid
      rw [Hww4.out]
      have h1 := heap_setCell_same wd G 0 _ 37 (.int .i64 0) HGd.out
      have h2 := heap_setCell_same _ G 1 _ 37 (.int .i64 0) h1
      have h3 := heap_setCell_same _ G 2 _ 37 (.string ⟨#[]⟩) h2
      have h4 := heap_setCell_same _ G 3 _ 37 (.bool false) h3
      have h5 := heap_setCell_same _ G 4 _ 37 (.slice none 0 0) h4
      have h6 := heap_setCell_same _ G 5 _ 37 (.slice none 0 0) h5
      simpa using h6
    have HSw4 : Hid (Apart [G] wd w4) := by unfold Hid; rw [Hww4.out]; exact (((((((Apart.refl _ _).setCell (.inl (by simp)) _).setCell (.inl (by simp)) _).setCell (.inl (by simp)) _).setCell (.inl (by simp)) _).setCell (.inl (by simp)) _).setCell (.inl (by simp)) _)
    obtain ⟨g0, g1, g2, g3, g4, g5⟩ := row6 HGd.out
    have y0 := frozen_of_row _ _ 0 _ _ HGd.out
    have y1 := frozen_of_row _ _ 1 _ _ HGd.out
    have y2 := frozen_of_row _ _ 2 _ _ HGd.out
    have y3 := frozen_of_row _ _ 3 _ _ HGd.out
    have y4 := frozen_of_row _ _ 4 _ _ HGd.out
    have y5 := frozen_of_row _ _ 5 _ _ HGd.out
    have hS4 : w4.cell? ⟨R, 2, none⟩ = some (.int .i64 (x : Nat)) := (HSw4.out.cell (p := ⟨R, 2, none⟩) HRl2.out (by have := HGR.out; simp; omega)).trans hHeld
    refine wpAnyH_ready (rs := [5]) (by kernel_rfl) (by simp) ?_
    refine AllReadyH.cons rfl (fun KK hKK => ?_) AllReadyH.nil
    go_simp
    rw [← Hww4.out]
    refine hKK.out _ _ hS4 (fun hHeld2 => ?_)
    clear hKK KK g0 g1 g2 g3 g4 g5 y0 y1 y2 y3 y4 y5
    refine tkn 6 5 (.int .i64 (x : Nat)) rfl ?_ ?_
    · intro W hSW; go_simp
    refine tkn 7 6 (.int .i64 60) rfl ?_ ?_
    · intro W hSW; go_simp
    refine wpAnyH_done (by kernel_rfl) ?_ _
    have HA4 : Hid (Apart [] w w4) := HAd.out.trans' HSw4.out (by intro y hy; simp at hy; rw [hy, HG.out]; exact .inr (Nat.le_refl _))
    have HP4 : Hid (RdP w w4 (.returned (.tuple #[.agg zE, .int .i64 (x : Nat), .int .i64 60])) (rlone B q) (.agg zE) (VX w)) := ⟨HA4.out, fun a q' h => (by rw [HRR.out] at h; cases h), fun y h => (by rw [HRR.out] at h; cases h; rfl)⟩
    go_wp2_with fail
    obtain ⟨k0, k1, k2, k3, k4, k5⟩ := row6 HGw4.out
    refine bodyPost_ret (v := .tuple #[.agg zE, .int .i64 (x : Nat), .int .i64 60]) ?_ rfl HP4.out
    simp [results, Tryz.results30, go_sem, zE, E.cs, Sl.v, aggE, k0, k1, k2, k3, k4, k5]
  | ok t =>
    obtain ⟨a, q2⟩ := t
    rw [hr] at hm
    obtain ⟨⟨v, rfl, e0, rfl, hw⟩, hq2⟩ := hm
    have HRR := hid hr
    have HQ2 := hid hq2
    have HWX := hid hw
    clear hr hq2 hw
    unfold aggE
    try dsimp only
    obtain ⟨w3, Hw3⟩ : ∃ w3, Hid (w3 = w2.alloc (.cells #[.int .i64 e0.n, .int .i64 e0.c, .string e0.k, .bool e0.d, .slice e0.v.p e0.v.n e0.v.c, .slice e0.x.p e0.x.n e0.x.c] 37)) := ⟨_, rfl⟩
    have HS3 : Hid (Apart [] w2 w3) := by unfold Hid; rw [Hw3.out]; exact (Apart.refl [] w2).alloc _
    have HG3 := hid ((HS3.out.block _ (lt_of_heap HG2.out) (by simp)).trans HG2.out)
    have HQ3 := hid (HQ2.out.kept HS3.out)
    have HA3 : Hid (Apart [] w w3) := HA2.out.trans HS3.out
    obtain ⟨z0, z1, z2, z3, z4⟩ := HQ3.out.cells
    have hz1 := z1
    rw [Hw3.out] at z0 z1 z2 z3 z4
    go_upto_region 7 with fail
    rw [← Hw3.out]
    clear z0 z1 z2 z3 z4
    have HRl : Hid (R < w3.heap.size) := lt_of_heap HQ3.out.blk
    have HGd : Hid (w3.drew.heap[G]? = some (.cells #[.int .i64 0, .int .i64 0, .string ⟨#[]⟩, .bool false, .slice none 0 0, .slice none 0 0] 37 (0, 0))) := HG3.out
    have HAd : Hid (Apart [] w w3.drew) := HA3.out.drew
    have HD : Hid (Apart [] w3 w3.drew) := (Apart.refl [] w3).drew
    have HWd := hid ((HWX.out.kept HS3.out).kept HD.out)
    have HE3 : Hid (w3.heap[w2.heap.size]? = some (.cells #[.int .i64 e0.n, .int .i64 e0.c, .string e0.k, .bool e0.d, .slice e0.v.p e0.v.n e0.v.c, .slice e0.x.p e0.x.n e0.x.c] 37 (0, 0))) := by unfold Hid; rw [Hw3.out]; exact heap_alloc_new w2 _
    have HEd : Hid (w3.drew.heap[w2.heap.size]? = some (.cells #[.int .i64 e0.n, .int .i64 e0.c, .string e0.k, .bool e0.d, .slice e0.v.p e0.v.n e0.v.c, .slice e0.x.p e0.x.n e0.x.c] 37 (0, 0))) := HE3.out
    refine wp_region_held_drew (S := fun W => W.cell? ⟨R, 1, none⟩ = some (.int .i64 (q2 : Nat)) ∧ W.heap[w2.heap.size]? = some (.cells #[.int .i64 e0.n, .int .i64 e0.c, .string e0.k, .bool e0.d, .slice e0.v.p e0.v.n e0.v.c, .slice e0.x.p e0.x.n e0.x.c] 37 (0, 0))) (by kernel_rfl) ⟨hz1, HEd.out⟩ (fun hHeld => ?_)
    have HRl2 : Hid (R < w3.drew.heap.size) := HRl.out
    generalize w3.drew = wd at *
    refine tkn 0 34 (.agg #[.int .i64 e0.n, .int .i64 e0.c, .string e0.k, .bool e0.d, .slice e0.v.p e0.v.n e0.v.c, .slice e0.x.p e0.x.n e0.x.c]) rfl ?_ ?_
    · intro W hSW; obtain ⟨c0, c1, c2, c3, c4, c5⟩ := row6 hSW.2; go_simp
    refine tkn 1 35 (.pointer (some ⟨R, 0, none⟩)) rfl ?_ ?_
    · intro W hSW; go_simp
    refine tkn 2 36 (.pointer (some ⟨R, 0, none⟩)) rfl ?_ ?_
    · intro W hSW; go_simp
    refine tkn 3 37 (.pointer (some ⟨R, 1, none⟩)) rfl ?_ ?_
    · intro W hSW; go_simp
    refine tkn 4 38 (.int .i64 (q2 : Nat)) rfl ?_ ?_
    · intro W hSW; have c1 := hSW.1; go_simp
    obtain ⟨w4, Hww4⟩ : ∃ w4, Hid (w4 = ((((((wd.setCell ⟨G, 0, none⟩ (.int .i64 e0.n)).setCell ⟨G, 1, none⟩ (.int .i64 e0.c)).setCell ⟨G, 2, none⟩ (.string e0.k)).setCell ⟨G, 3, none⟩ (.bool e0.d)).setCell ⟨G, 4, none⟩ (.slice e0.v.p e0.v.n e0.v.c)).setCell ⟨G, 5, none⟩ (.slice e0.x.p e0.x.n e0.x.c))) := ⟨_, rfl⟩
    have HGw4 : Hid (w4.heap[G]? = some (.cells #[.int .i64 e0.n, .int .i64 e0.c, .string e0.k, .bool e0.d, .slice e0.v.p e0.v.n e0.v.c, .slice e0.x.p e0.x.n e0.x.c] 37 (0, 0))) := by
      unfold Hid
      rw [Hww4.out]
      have h1 := heap_setCell_same wd G 0 _ 37 (.int .i64 e0.n) HGd.out
      have h2 := heap_setCell_same _ G 1 _ 37 (.int .i64 e0.c) h1
      have h3 := heap_setCell_same _ G 2 _ 37 (.string e0.k) h2
      have h4 := heap_setCell_same _ G 3 _ 37 (.bool e0.d) h3
      have h5 := heap_setCell_same _ G 4 _ 37 (.slice e0.v.p e0.v.n e0.v.c) h4
      have h6 := heap_setCell_same _ G 5 _ 37 (.slice e0.x.p e0.x.n e0.x.c) h5
      simpa using h6
    have HSw4 : Hid (Apart [G] wd w4) := by unfold Hid; rw [Hww4.out]; exact (((((((Apart.refl _ _).setCell (.inl (by simp)) _).setCell (.inl (by simp)) _).setCell (.inl (by simp)) _).setCell (.inl (by simp)) _).setCell (.inl (by simp)) _).setCell (.inl (by simp)) _)
    obtain ⟨g0, g1, g2, g3, g4, g5⟩ := row6 HGd.out
    have y0 := frozen_of_row _ _ 0 _ _ HGd.out
    have y1 := frozen_of_row _ _ 1 _ _ HGd.out
    have y2 := frozen_of_row _ _ 2 _ _ HGd.out
    have y3 := frozen_of_row _ _ 3 _ _ HGd.out
    have y4 := frozen_of_row _ _ 4 _ _ HGd.out
    have y5 := frozen_of_row _ _ 5 _ _ HGd.out
    have hS4 : w4.cell? ⟨R, 1, none⟩ = some (.int .i64 (q2 : Nat)) ∧ w4.heap[w2.heap.size]? = some (.cells #[.int .i64 e0.n, .int .i64 e0.c, .string e0.k, .bool e0.d, .slice e0.v.p e0.v.n e0.v.c, .slice e0.x.p e0.x.n e0.x.c] 37 (0, 0)) := ⟨(HSw4.out.cell (p := ⟨R, 1, none⟩) HRl2.out (by have := HGR.out; simp; omega)).trans hHeld.1, (HSw4.out.block _ (lt_of_heap hHeld.2) (by have := HG.out; have := HA2.out.size; have := lt_of_heap HG2.out; simp; omega)).trans hHeld.2⟩
    refine wpAnyH_ready (rs := [5]) (by kernel_rfl) (by simp) ?_
    refine AllReadyH.cons rfl (fun KK hKK => ?_) AllReadyH.nil
    go_simp
    rw [← Hww4.out]
    refine hKK.out _ _ hS4 (fun hHeld2 => ?_)
    clear hKK KK g0 g1 g2 g3 g4 g5 y0 y1 y2 y3 y4 y5
    refine tkn 6 5 (.int .i64 (q2 : Nat)) rfl ?_ ?_
    · intro W hSW; go_simp
    refine tkn 7 6 (.int .i64 0) rfl ?_ ?_
    · intro W hSW; go_simp
    refine wpAnyH_done (by kernel_rfl) ?_ _
    have HA4 : Hid (Apart [] w w4) := HAd.out.trans' HSw4.out (by intro y hy; simp at hy; rw [hy, HG.out]; exact .inr (Nat.le_refl _))
    have HWX4 := hid (HWd.out.oth HSw4.out HGd.out (by decide) (by rw [HG.out]; exact Nat.le_refl _))
    have HP4 : Hid (RdP w w4 (.returned (.tuple #[.agg (E.cs e0).toArray, .int .i64 (q2 : Nat), .int .i64 0])) (rlone B q) (.agg zE) (VX w)) := ⟨HA4.out, fun a q' h => (by rw [HRR.out] at h; cases h; exact ⟨_, rfl, e0, rfl, HWX4.out⟩), fun y h => (by rw [HRR.out] at h; cases h)⟩
    go_wp2_with fail
    obtain ⟨k0, k1, k2, k3, k4, k5⟩ := row6 HGw4.out
    refine bodyPost_ret (v := .tuple #[.agg (E.cs e0).toArray, .int .i64 (q2 : Nat), .int .i64 0]) ?_ rfl HP4.out
    simp [results, Tryz.results30, go_sem, zE, E.cs, Sl.v, aggE, k0, k1, k2, k3, k4, k5]
end Go.Proofs.YtddffdcjhleejaaGreat.ds
