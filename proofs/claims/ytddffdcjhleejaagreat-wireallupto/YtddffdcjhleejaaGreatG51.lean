import Derived.Test.YtddffdcjhleejaaGreatG1
import Derived.Test.YtddffdcjhleejaaGreatG50
import Derived.Test.YtddffdcjhleejaaGreatG33
namespace Go.Proofs.YtddffdcjhleejaaGreat.ds
open Go.ChangeShapes Go.WideShapes Go.ChangeAt Go.RowKit Go.Sort
set_option linter.unusedVariables false
set_option linter.unusedSimpArgs false
def VRM (a : Mg) (v : Value) (w' : World) : Prop := ∃ (m : MM) (es : List E), v = .agg m.cs ∧ RM w' m a es
theorem VMX.rm {wB w : World} {a : Mg} {m : MM} {es : List E} (h : (m.kind = a.kind ∧ m.frm = a.frm ∧ m.dst = a.dst ∧ m.call = a.call ∧ m.rng = a.rng ∧ m.own = a.own ∧ m.key = strB a.key ∧ m.dn = a.dn ∧ m.dc = a.dc ∧ ∀ b ∈ a.key, b < 256)) (hs : Nw wB w 48 3 m.set (flat a.set) ∧ m.set.n = a.set.length ∧ a.set.length ≤ 8 ∧ ∀ x ∈ a.set, x.t < 2 ^ 64) (hf : FX wB w m.ws es a.ws) (hl : a.ws.length ≤ 512) : RM w m a es := by
  obtain ⟨h1, h2, h3, h4, h5, h6, h7, h8, h9, h10⟩ := h
  exact ⟨h1, h2, h3, h4, h5, h6, h7, h10, h8, h9, ⟨Sp.of_rd hs.1.rd, hs.2.1.symm, by have := hs.2.1; have := hs.2.2.1; omega, hs.2.2.2⟩, hf.rws (by have := hf.len; omega), hs.1.ok⟩
set_option maxHeartbeats 16000000 in
set_option maxRecDepth 100000 in
theorem rdecode_ok {w : World} {p : Option Addr} {N c : Nat} {B : List Nat} (h : RBs w ⟨p, N, c⟩ B) (hlim : N ≤ 1000000) (hcap : N ≤ c) :
    Calls Tryz.prog 19 #[.slice p N c] w fun e w' => DeP w w' e (rmsg B 0) (.agg MM.z.cs) VRM := by
  obtain ⟨G, HG⟩ : ∃ G, Hid (G = w.heap.size) := ⟨_, rfl⟩
  obtain ⟨R, HR⟩ : ∃ R, Hid (R = w.heap.size + 1) := ⟨_, rfl⟩
  obtain ⟨w0, hw0⟩ : ∃ w0, w0 = w.alloc (.cells #[.int .i64 0, .int .i64 0, .int .i64 0, .int .i64 0, .int .i64 0, .int .i64 0, .string ⟨#[]⟩, .int .i64 0, .int .i64 0, .slice none 0 0, .slice none 0 0] 29) := ⟨_, rfl⟩
  obtain ⟨w1, hw1⟩ : ∃ w1, w1 = w0.alloc (.cells #[.slice p N c, .int .i64 0, .int .i64 (-1)] 100) := ⟨_, rfl⟩
  have hs0 : w0.heap.size = w.heap.size + 1 := by rw [hw0]; simp
  have HR2 : Hid (R = w0.heap.size) := by unfold Hid; rw [HR.out, hs0]
  have HA0 : Hid (Apart [] w w0) := by unfold Hid; rw [hw0]; exact (Apart.refl [] w).alloc _
  have HA1 : Hid (Apart [] w0 w1) := by unfold Hid; rw [hw1]; exact (Apart.refl [] w0).alloc _
  have HG1 : Hid (w1.heap[G]? = some (.cells #[.int .i64 0, .int .i64 0, .int .i64 0, .int .i64 0, .int .i64 0, .int .i64 0, .string ⟨#[]⟩, .int .i64 0, .int .i64 0, .slice none 0 0, .slice none 0 0] 29 (0, 0))) := by
    have : w0.heap[G]? = some (.cells #[.int .i64 0, .int .i64 0, .int .i64 0, .int .i64 0, .int .i64 0, .int .i64 0, .string ⟨#[]⟩, .int .i64 0, .int .i64 0, .slice none 0 0, .slice none 0 0] 29 (0, 0)) := by rw [HG.out, hw0]; exact heap_alloc_new w _
    exact (HA1.out.block _ (lt_of_heap this) (by simp)).trans this
  have HR1 : Hid (w1.heap[R]? = some (.cells #[.slice p N c, .int .i64 0, .int .i64 (-1)] 100 (0, 0))) := by unfold Hid; rw [HR2.out, hw1]; exact heap_alloc_new w0 _
  have HRX : Hid (RX w w1 R p N c B 0 (-1)) := h.readerX hlim hcap (at' := 0) (HA0.out.trans HA1.out) HR1.out (by rw [HR.out]; omega) (Nat.zero_le _)
  have HC := hid (rmessage_ok HRX.out)
  have HLB : Hid (B.length = N) := h.len
  have HML := hid (rmsg_link B 0)
  clear h hs0
  go_enter Tryz.func19, Tryz.ntmps19
  go_wp2_with fail
  rw [← hw0, ← hw1, ← HR.out, ← HG.out]
  clear hw0 hw1
  refine HC.out.mono ?_
  rintro e w2 ⟨ha2, hm⟩
  have HGR : Hid (G ≠ R) := by unfold Hid; rw [HG.out, HR.out]; omega
  have HG2 : Hid (w2.heap[G]? = some (.cells #[.int .i64 0, .int .i64 0, .int .i64 0, .int .i64 0, .int .i64 0, .int .i64 0, .string ⟨#[]⟩, .int .i64 0, .int .i64 0, .slice none 0 0, .slice none 0 0] 29 (0, 0))) := (ha2.block _ (lt_of_heap HG1.out) (by have := HGR.out; simpa using this)).trans HG1.out
  have HA2 : Hid (Apart [] w w2) := (HA0.out.trans HA1.out).trans' ha2 (by intro y hy; simp at hy; rw [hy, HR.out]; exact .inr (by omega))
  clear ha2 HC
  cases hr : rmD B 0 with
  | error x =>
    rw [hr] at hm
    obtain ⟨⟨v, rfl, a0, a1, a2, a3, a4, a5, kb, a7, a8, s9, s10, rfl⟩, q2, hq2⟩ := hm
    have HRR : Hid (rmsg B 0 = .error x) := by unfold Hid; rw [HML.out, hr]; rfl
    have HQ2 := hid hq2
    have hx0 : ((x : Nat) : Int) ≥ 0 := by omega
    have hx1 : ¬ ((x : Nat) : Int) < 0 := by omega
    clear hr hq2
    try dsimp only
    obtain ⟨w3, Hw3⟩ : ∃ w3, Hid (w3 = w2.alloc (.cells #[.int .i64 a0, .int .i64 a1, .int .i64 a2, .int .i64 a3, .int .i64 a4, .int .i64 a5, .string kb, .int .i64 a7, .int .i64 a8, .slice s9.p s9.n s9.c, .slice s10.p s10.n s10.c] 29)) := ⟨_, rfl⟩
    have HS3 : Hid (Apart [] w2 w3) := by unfold Hid; rw [Hw3.out]; exact (Apart.refl [] w2).alloc _
    have HG3 := hid ((HS3.out.block _ (lt_of_heap HG2.out) (by simp)).trans HG2.out)
    have HQ3 := hid (HQ2.out.kept HS3.out)
    have HA3 : Hid (Apart [] w w3) := HA2.out.trans HS3.out
    obtain ⟨z0, z1, z2, z3, z4⟩ := HQ3.out.cells
    rw [Hw3.out] at z0 z1 z2 z3 z4
    go_upto_region 6 with fail
    rw [← Hw3.out]
    clear z0 z1 z2 z3 z4
    have HRl : Hid (R < w3.drew.heap.size) := lt_of_heap HQ3.out.blk
    have HGd : Hid (w3.drew.heap[G]? = some (.cells #[.int .i64 0, .int .i64 0, .int .i64 0, .int .i64 0, .int .i64 0, .int .i64 0, .string ⟨#[]⟩, .int .i64 0, .int .i64 0, .slice none 0 0, .slice none 0 0] 29 (0, 0))) := HG3.out
    have HAd : Hid (Apart [] w w3.drew) := HA3.out.drew
    have hz2 : w3.drew.cell? ⟨R, 2, none⟩ = some (.int .i64 (x : Nat)) := HQ3.out.cells.2.2.1
    refine wp_region_held_drew (S := fun W => W.cell? ⟨R, 2, none⟩ = some (.int .i64 (x : Nat))) (by kernel_rfl) hz2 (fun hHeld => ?_)
    clear hz2
    generalize w3.drew = wd at *
    refine tkn 0 37 (.agg #[.int .i64 0, .int .i64 0, .int .i64 0, .int .i64 0, .int .i64 0, .int .i64 0, .string ⟨#[]⟩, .int .i64 0, .int .i64 0, .slice none 0 0, .slice none 0 0]) rfl ?_ ?_
    · intro W hSW; go_simp
    refine tkn 1 38 (.pointer (some ⟨R, 0, none⟩)) rfl ?_ ?_
    · intro W hSW; go_simp
    refine tkn 2 39 (.pointer (some ⟨R, 0, none⟩)) rfl ?_ ?_
    · intro W hSW; go_simp
    refine tkn 3 40 (.pointer (some ⟨R, 2, none⟩)) rfl ?_ ?_
    · intro W hSW; go_simp
    refine tkn 4 41 (.int .i64 (x : Nat)) rfl ?_ ?_
    · intro W hSW; go_simp
    obtain ⟨w4, Hww4⟩ : ∃ w4, Hid (w4 = (((((((((((wd.setCell ⟨G, 0, none⟩ (.int .i64 0)).setCell ⟨G, 1, none⟩ (.int .i64 0)).setCell ⟨G, 2, none⟩ (.int .i64 0)).setCell ⟨G, 3, none⟩ (.int .i64 0)).setCell ⟨G, 4, none⟩ (.int .i64 0)).setCell ⟨G, 5, none⟩ (.int .i64 0)).setCell ⟨G, 6, none⟩ (.string ⟨#[]⟩)).setCell ⟨G, 7, none⟩ (.int .i64 0)).setCell ⟨G, 8, none⟩ (.int .i64 0)).setCell ⟨G, 9, none⟩ (.slice none 0 0)).setCell ⟨G, 10, none⟩ (.slice none 0 0))) := ⟨_, rfl⟩
    have HGw4 : Hid (w4.heap[G]? = some (.cells #[.int .i64 0, .int .i64 0, .int .i64 0, .int .i64 0, .int .i64 0, .int .i64 0, .string ⟨#[]⟩, .int .i64 0, .int .i64 0, .slice none 0 0, .slice none 0 0] 29 (0, 0))) := by
      unfold Hid
      rw [Hww4.out]
      have q0 := heap_setCell_same wd G 0 _ 29 (.int .i64 0) HGd.out
      have q1 := heap_setCell_same _ G 1 _ 29 (.int .i64 0) q0
      have q2 := heap_setCell_same _ G 2 _ 29 (.int .i64 0) q1
      have q3 := heap_setCell_same _ G 3 _ 29 (.int .i64 0) q2
      have q4 := heap_setCell_same _ G 4 _ 29 (.int .i64 0) q3
      have q5 := heap_setCell_same _ G 5 _ 29 (.int .i64 0) q4
      have q6 := heap_setCell_same _ G 6 _ 29 (.string ⟨#[]⟩) q5
      have q7 := heap_setCell_same _ G 7 _ 29 (.int .i64 0) q6
      have q8 := heap_setCell_same _ G 8 _ 29 (.int .i64 0) q7
      have q9 := heap_setCell_same _ G 9 _ 29 (.slice none 0 0) q8
      have q10 := heap_setCell_same _ G 10 _ 29 (.slice none 0 0) q9
      simpa using q10
    have HSw4 : Hid (Apart [G] wd w4) := by unfold Hid; rw [Hww4.out]; exact (((((((((((Apart.refl _ _).setCell (.inl (by simp)) _).setCell (.inl (by simp)) _).setCell (.inl (by simp)) _).setCell (.inl (by simp)) _).setCell (.inl (by simp)) _).setCell (.inl (by simp)) _).setCell (.inl (by simp)) _).setCell (.inl (by simp)) _).setCell (.inl (by simp)) _).setCell (.inl (by simp)) _).setCell (.inl (by simp)) _
    obtain ⟨⟨g0, g1, g2, g3, g4, g5⟩, g6, g7, g8, g9, g10⟩ := row11 HGd.out
    have y0 := frozen_of_row _ _ 0 _ _ HGd.out
    have y1 := frozen_of_row _ _ 1 _ _ HGd.out
    have y2 := frozen_of_row _ _ 2 _ _ HGd.out
    have y3 := frozen_of_row _ _ 3 _ _ HGd.out
    have y4 := frozen_of_row _ _ 4 _ _ HGd.out
    have y5 := frozen_of_row _ _ 5 _ _ HGd.out
    have y6 := frozen_of_row _ _ 6 _ _ HGd.out
    have y7 := frozen_of_row _ _ 7 _ _ HGd.out
    have y8 := frozen_of_row _ _ 8 _ _ HGd.out
    have y9 := frozen_of_row _ _ 9 _ _ HGd.out
    have y10 := frozen_of_row _ _ 10 _ _ HGd.out
    have hS4 : w4.cell? ⟨R, 2, none⟩ = some (.int .i64 (x : Nat)) := (HSw4.out.cell (p := ⟨R, 2, none⟩) HRl.out (by have := HGR.out; simp; omega)).trans hHeld
    refine wpAnyH_ready (rs := [5]) (by kernel_rfl) (by simp) ?_
    refine AllReadyH.cons rfl (fun KK hKK => ?_) AllReadyH.nil
    go_simp
    rw [← Hww4.out]
    refine hKK.out _ _ hS4 (fun hHeld2 => ?_)
    clear hKK KK
    clear g0 g1 g2 g3 g4 g5 g6 g7 g8 g9 g10 y0 y1 y2 y3 y4 y5 y6 y7 y8 y9 y10
    refine tkn 6 3 (.int .i64 (x : Nat)) rfl ?_ ?_
    · intro W hSW; go_simp
    refine tkn 7 4 (.int .i64 60) rfl ?_ ?_
    · intro W hSW; go_simp
    refine wpAnyH_done (by kernel_rfl) ?_ _
    have HA4 : Hid (Apart [] w w4) := HAd.out.trans' HSw4.out (by intro y hy; simp at hy; rw [hy, HG.out]; exact .inr (Nat.le_refl _))
    have HP4 : Hid (DeP w w4 (.returned (.tuple #[.agg MM.z.cs, .int .i64 (x : Nat), .int .i64 60])) (rmsg B 0) (.agg MM.z.cs) VRM) := ⟨HA4.out, fun a q' h => (by rw [HRR.out] at h; cases h), fun y h => (by rw [HRR.out] at h; cases h; rfl)⟩
    go_wp2_with fail
    obtain ⟨⟨k0, k1, k2, k3, k4, k5⟩, k6, k7, k8, k9, k10⟩ := row11 HGw4.out
    refine bodyPost_ret (v := .tuple #[.agg MM.z.cs, .int .i64 (x : Nat), .int .i64 60]) ?_ rfl HP4.out
    simp [results, Tryz.results19, go_sem, MM.cs, MM.z, k0, k1, k2, k3, k4, k5, k6, k7, k8, k9, k10]
  | ok tt =>
    obtain ⟨a, q2⟩ := tt
    rw [hr] at hm
    obtain ⟨⟨v, rfl, m, es, rfl, hv1, hv2, hv3, hv4⟩, hq2⟩ := hm
    have HQ2 := hid hq2
    have HV1 := hid hv1
    have HV2 := hid hv2
    have HV3 := hid hv3
    have HV4 := hid hv4
    have HR0 := hid hr
    clear hr hq2 hv1 hv2 hv3 hv4
    unfold MM.cs
    try dsimp only
    obtain ⟨w3, Hw3⟩ : ∃ w3, Hid (w3 = w2.alloc (.cells #[.int .i64 (m.kind : Nat), .int .i64 (m.frm : Nat), .int .i64 (m.dst : Nat), .int .i64 (m.call : Nat), .int .i64 (m.rng : Nat), .int .i64 (m.own : Nat), .string m.key, .int .i64 (m.dn : Nat), .int .i64 (m.dc : Nat), .slice m.set.p m.set.n m.set.c, .slice m.ws.p m.ws.n m.ws.c] 29)) := ⟨_, rfl⟩
    have HS3 : Hid (Apart [] w2 w3) := by unfold Hid; rw [Hw3.out]; exact (Apart.refl [] w2).alloc _
    have HG3 := hid ((HS3.out.block _ (lt_of_heap HG2.out) (by simp)).trans HG2.out)
    have HQ3 := hid (HQ2.out.kept HS3.out)
    have HA3 : Hid (Apart [] w w3) := HA2.out.trans HS3.out
    obtain ⟨z0, z1, z2, z3, z4⟩ := HQ3.out.cells
    rw [Hw3.out] at z0 z1 z2 z3 z4
    by_cases hlt : q2 < N
    · have hlti : ((q2 : Nat) : Int) < (N : Int) := by omega
      have HRR : Hid (rmsg B 0 = .error q2) := by unfold Hid; rw [HML.out, HR0.out, rb_ok, if_neg (by rw [HLB.out]; omega)]
      have hx0 : ((q2 : Nat) : Int) ≥ 0 := by omega
      go_wp2_with fail
      rw [← Hw3.out]
      clear z0 z1 z2 z3 z4
      refine (rwrong_yes HQ3.out (q2 : Nat)).mono ?_
      rintro _ w5 ⟨rfl, ha5, hr5⟩
      have HQ5 := hid hr5
      have HG5 : Hid (w5.heap[G]? = some (.cells #[.int .i64 0, .int .i64 0, .int .i64 0, .int .i64 0, .int .i64 0, .int .i64 0, .string ⟨#[]⟩, .int .i64 0, .int .i64 0, .slice none 0 0, .slice none 0 0] 29 (0, 0))) := (ha5.block _ (lt_of_heap HG3.out) (by have := HGR.out; simpa using this)).trans HG3.out
      have HA5 : Hid (Apart [] w w5) := HA3.out.trans' ha5 (by intro y hy; simp at hy; rw [hy, HR.out]; exact .inr (by omega))
      clear ha5 hr5
      try dsimp only
      obtain ⟨z0, z1, z2, z3, z4⟩ := HQ5.out.cells
      go_upto_region 6 with fail
      clear z0 z1 z2 z3 z4
      have HRl : Hid (R < w5.drew.heap.size) := lt_of_heap HQ5.out.blk
      have HGd : Hid (w5.drew.heap[G]? = some (.cells #[.int .i64 0, .int .i64 0, .int .i64 0, .int .i64 0, .int .i64 0, .int .i64 0, .string ⟨#[]⟩, .int .i64 0, .int .i64 0, .slice none 0 0, .slice none 0 0] 29 (0, 0))) := HG5.out
      have HAd : Hid (Apart [] w w5.drew) := HA5.out.drew
      have hz2 : w5.drew.cell? ⟨R, 2, none⟩ = some (.int .i64 (q2 : Nat)) := HQ5.out.cells.2.2.1
      refine wp_region_held_drew (S := fun W => W.cell? ⟨R, 2, none⟩ = some (.int .i64 (q2 : Nat))) (by kernel_rfl) hz2 (fun hHeld => ?_)
      clear hz2
      generalize w5.drew = wd at *
      refine tkn 0 37 (.agg #[.int .i64 0, .int .i64 0, .int .i64 0, .int .i64 0, .int .i64 0, .int .i64 0, .string ⟨#[]⟩, .int .i64 0, .int .i64 0, .slice none 0 0, .slice none 0 0]) rfl ?_ ?_
      · intro W hSW; go_simp
      refine tkn 1 38 (.pointer (some ⟨R, 0, none⟩)) rfl ?_ ?_
      · intro W hSW; go_simp
      refine tkn 2 39 (.pointer (some ⟨R, 0, none⟩)) rfl ?_ ?_
      · intro W hSW; go_simp
      refine tkn 3 40 (.pointer (some ⟨R, 2, none⟩)) rfl ?_ ?_
      · intro W hSW; go_simp
      refine tkn 4 41 (.int .i64 (q2 : Nat)) rfl ?_ ?_
      · intro W hSW; go_simp
      obtain ⟨w4, Hww4⟩ : ∃ w4, Hid (w4 = (((((((((((wd.setCell ⟨G, 0, none⟩ (.int .i64 0)).setCell ⟨G, 1, none⟩ (.int .i64 0)).setCell ⟨G, 2, none⟩ (.int .i64 0)).setCell ⟨G, 3, none⟩ (.int .i64 0)).setCell ⟨G, 4, none⟩ (.int .i64 0)).setCell ⟨G, 5, none⟩ (.int .i64 0)).setCell ⟨G, 6, none⟩ (.string ⟨#[]⟩)).setCell ⟨G, 7, none⟩ (.int .i64 0)).setCell ⟨G, 8, none⟩ (.int .i64 0)).setCell ⟨G, 9, none⟩ (.slice none 0 0)).setCell ⟨G, 10, none⟩ (.slice none 0 0))) := ⟨_, rfl⟩
      have HGw4 : Hid (w4.heap[G]? = some (.cells #[.int .i64 0, .int .i64 0, .int .i64 0, .int .i64 0, .int .i64 0, .int .i64 0, .string ⟨#[]⟩, .int .i64 0, .int .i64 0, .slice none 0 0, .slice none 0 0] 29 (0, 0))) := by
        unfold Hid
        rw [Hww4.out]
        have q0 := heap_setCell_same wd G 0 _ 29 (.int .i64 0) HGd.out
        have q1 := heap_setCell_same _ G 1 _ 29 (.int .i64 0) q0
        have q2 := heap_setCell_same _ G 2 _ 29 (.int .i64 0) q1
        have q3 := heap_setCell_same _ G 3 _ 29 (.int .i64 0) q2
        have q4 := heap_setCell_same _ G 4 _ 29 (.int .i64 0) q3
        have q5 := heap_setCell_same _ G 5 _ 29 (.int .i64 0) q4
        have q6 := heap_setCell_same _ G 6 _ 29 (.string ⟨#[]⟩) q5
        have q7 := heap_setCell_same _ G 7 _ 29 (.int .i64 0) q6
        have q8 := heap_setCell_same _ G 8 _ 29 (.int .i64 0) q7
        have q9 := heap_setCell_same _ G 9 _ 29 (.slice none 0 0) q8
        have q10 := heap_setCell_same _ G 10 _ 29 (.slice none 0 0) q9
        simpa using q10
      have HSw4 : Hid (Apart [G] wd w4) := by unfold Hid; rw [Hww4.out]; exact (((((((((((Apart.refl _ _).setCell (.inl (by simp)) _).setCell (.inl (by simp)) _).setCell (.inl (by simp)) _).setCell (.inl (by simp)) _).setCell (.inl (by simp)) _).setCell (.inl (by simp)) _).setCell (.inl (by simp)) _).setCell (.inl (by simp)) _).setCell (.inl (by simp)) _).setCell (.inl (by simp)) _).setCell (.inl (by simp)) _
      obtain ⟨⟨g0, g1, g2, g3, g4, g5⟩, g6, g7, g8, g9, g10⟩ := row11 HGd.out
      have y0 := frozen_of_row _ _ 0 _ _ HGd.out
      have y1 := frozen_of_row _ _ 1 _ _ HGd.out
      have y2 := frozen_of_row _ _ 2 _ _ HGd.out
      have y3 := frozen_of_row _ _ 3 _ _ HGd.out
      have y4 := frozen_of_row _ _ 4 _ _ HGd.out
      have y5 := frozen_of_row _ _ 5 _ _ HGd.out
      have y6 := frozen_of_row _ _ 6 _ _ HGd.out
      have y7 := frozen_of_row _ _ 7 _ _ HGd.out
      have y8 := frozen_of_row _ _ 8 _ _ HGd.out
      have y9 := frozen_of_row _ _ 9 _ _ HGd.out
      have y10 := frozen_of_row _ _ 10 _ _ HGd.out
      have hS4 : w4.cell? ⟨R, 2, none⟩ = some (.int .i64 (q2 : Nat)) := (HSw4.out.cell (p := ⟨R, 2, none⟩) HRl.out (by have := HGR.out; simp; omega)).trans hHeld
      refine wpAnyH_ready (rs := [5]) (by kernel_rfl) (by simp) ?_
      refine AllReadyH.cons rfl (fun KK hKK => ?_) AllReadyH.nil
      go_simp
      rw [← Hww4.out]
      refine hKK.out _ _ hS4 (fun hHeld2 => ?_)
      clear hKK KK
      clear g0 g1 g2 g3 g4 g5 g6 g7 g8 g9 g10 y0 y1 y2 y3 y4 y5 y6 y7 y8 y9 y10
      refine tkn 6 3 (.int .i64 (q2 : Nat)) rfl ?_ ?_
      · intro W hSW; go_simp
      refine tkn 7 4 (.int .i64 60) rfl ?_ ?_
      · intro W hSW; go_simp
      refine wpAnyH_done (by kernel_rfl) ?_ _
      have HA4 : Hid (Apart [] w w4) := HAd.out.trans' HSw4.out (by intro y hy; simp at hy; rw [hy, HG.out]; exact .inr (Nat.le_refl _))
      have HP4 : Hid (DeP w w4 (.returned (.tuple #[.agg MM.z.cs, .int .i64 (q2 : Nat), .int .i64 60])) (rmsg B 0) (.agg MM.z.cs) VRM) := ⟨HA4.out, fun a q' h => (by rw [HRR.out] at h; cases h), fun y h => (by rw [HRR.out] at h; cases h; rfl)⟩
      go_wp2_with fail
      obtain ⟨⟨k0, k1, k2, k3, k4, k5⟩, k6, k7, k8, k9, k10⟩ := row11 HGw4.out
      refine bodyPost_ret (v := .tuple #[.agg MM.z.cs, .int .i64 (q2 : Nat), .int .i64 60]) ?_ rfl HP4.out
      simp [results, Tryz.results19, go_sem, MM.cs, MM.z, k0, k1, k2, k3, k4, k5, k6, k7, k8, k9, k10]
    · have hlti : ¬ ((q2 : Nat) : Int) < (N : Int) := by omega
      have HRR : Hid (rmsg B 0 = .ok (a, q2)) := by
        have hle := HQ3.out.le
        unfold Hid
        rw [HML.out, HR0.out, rb_ok, if_pos (by rw [HLB.out]; omega)]
      obtain ⟨J, HJ⟩ : ∃ J, Hid (J = w2.heap.size) := ⟨_, rfl⟩
      have HJ3 : Hid (w3.heap[J]? = some (.cells #[.int .i64 (m.kind : Nat), .int .i64 (m.frm : Nat), .int .i64 (m.dst : Nat), .int .i64 (m.call : Nat), .int .i64 (m.rng : Nat), .int .i64 (m.own : Nat), .string m.key, .int .i64 (m.dn : Nat), .int .i64 (m.dc : Nat), .slice m.set.p m.set.n m.set.c, .slice m.ws.p m.ws.n m.ws.c] 29 (0, 0))) := by unfold Hid; rw [HJ.out, Hw3.out]; exact heap_alloc_new w2 _
      go_upto_region 7 with fail
      rw [← Hw3.out, ← HJ.out]
      clear z0 z1 z2 z3 z4
      obtain ⟨⟨j0, j1, j2, j3, j4, j5⟩, j6, j7, j8, j9, j10⟩ := row11 HJ3.out
      obtain ⟨w4, Hww4⟩ : ∃ w4, Hid (w4 = (((((((((((w3.setCell ⟨G, 0, none⟩ (.int .i64 (m.kind : Nat))).setCell ⟨G, 1, none⟩ (.int .i64 (m.frm : Nat))).setCell ⟨G, 2, none⟩ (.int .i64 (m.dst : Nat))).setCell ⟨G, 3, none⟩ (.int .i64 (m.call : Nat))).setCell ⟨G, 4, none⟩ (.int .i64 (m.rng : Nat))).setCell ⟨G, 5, none⟩ (.int .i64 (m.own : Nat))).setCell ⟨G, 6, none⟩ (.string m.key)).setCell ⟨G, 7, none⟩ (.int .i64 (m.dn : Nat))).setCell ⟨G, 8, none⟩ (.int .i64 (m.dc : Nat))).setCell ⟨G, 9, none⟩ (.slice m.set.p m.set.n m.set.c)).setCell ⟨G, 10, none⟩ (.slice m.ws.p m.ws.n m.ws.c))) := ⟨_, rfl⟩
      have HGw4 : Hid (w4.heap[G]? = some (.cells #[.int .i64 (m.kind : Nat), .int .i64 (m.frm : Nat), .int .i64 (m.dst : Nat), .int .i64 (m.call : Nat), .int .i64 (m.rng : Nat), .int .i64 (m.own : Nat), .string m.key, .int .i64 (m.dn : Nat), .int .i64 (m.dc : Nat), .slice m.set.p m.set.n m.set.c, .slice m.ws.p m.ws.n m.ws.c] 29 (0, 0))) := by
        unfold Hid
        rw [Hww4.out]
        have q0 := heap_setCell_same w3 G 0 _ 29 (.int .i64 (m.kind : Nat)) HG3.out
        have q1 := heap_setCell_same _ G 1 _ 29 (.int .i64 (m.frm : Nat)) q0
        have q2 := heap_setCell_same _ G 2 _ 29 (.int .i64 (m.dst : Nat)) q1
        have q3 := heap_setCell_same _ G 3 _ 29 (.int .i64 (m.call : Nat)) q2
        have q4 := heap_setCell_same _ G 4 _ 29 (.int .i64 (m.rng : Nat)) q3
        have q5 := heap_setCell_same _ G 5 _ 29 (.int .i64 (m.own : Nat)) q4
        have q6 := heap_setCell_same _ G 6 _ 29 (.string m.key) q5
        have q7 := heap_setCell_same _ G 7 _ 29 (.int .i64 (m.dn : Nat)) q6
        have q8 := heap_setCell_same _ G 8 _ 29 (.int .i64 (m.dc : Nat)) q7
        have q9 := heap_setCell_same _ G 9 _ 29 (.slice m.set.p m.set.n m.set.c) q8
        have q10 := heap_setCell_same _ G 10 _ 29 (.slice m.ws.p m.ws.n m.ws.c) q9
        simpa using q10
      have HSw4 : Hid (Apart [G] w3 w4) := by unfold Hid; rw [Hww4.out]; exact (((((((((((Apart.refl _ _).setCell (.inl (by simp)) _).setCell (.inl (by simp)) _).setCell (.inl (by simp)) _).setCell (.inl (by simp)) _).setCell (.inl (by simp)) _).setCell (.inl (by simp)) _).setCell (.inl (by simp)) _).setCell (.inl (by simp)) _).setCell (.inl (by simp)) _).setCell (.inl (by simp)) _).setCell (.inl (by simp)) _
      obtain ⟨⟨g0, g1, g2, g3, g4, g5⟩, g6, g7, g8, g9, g10⟩ := row11 HG3.out
      have y0 := frozen_of_row _ _ 0 _ _ HG3.out
      have y1 := frozen_of_row _ _ 1 _ _ HG3.out
      have y2 := frozen_of_row _ _ 2 _ _ HG3.out
      have y3 := frozen_of_row _ _ 3 _ _ HG3.out
      have y4 := frozen_of_row _ _ 4 _ _ HG3.out
      have y5 := frozen_of_row _ _ 5 _ _ HG3.out
      have y6 := frozen_of_row _ _ 6 _ _ HG3.out
      have y7 := frozen_of_row _ _ 7 _ _ HG3.out
      have y8 := frozen_of_row _ _ 8 _ _ HG3.out
      have y9 := frozen_of_row _ _ 9 _ _ HG3.out
      have y10 := frozen_of_row _ _ 10 _ _ HG3.out
      have HA4 : Hid (Apart [] w w4) := HA3.out.trans' HSw4.out (by intro y hy; simp at hy; rw [hy, HG.out]; exact .inr (Nat.le_refl _))
      have hn4 : Nw w w4 48 3 m.set (flat a.set) := (HV2.out.1.kept HS3.out).keepT HSw4.out HA4.out (by intro k hk cur e; simp at hk; rw [hk, HG3.out] at e; simp at e)
      have hf4 : FX w w4 m.ws es a.ws := (HV3.out.kept HS3.out).gen HSw4.out HA4.out (by intro k hk; simp at hk; rw [hk]; exact ⟨_, 29, HG3.out, by decide, by decide, by decide⟩)
      have HP4 : Hid (DeP w w4 (.returned (.tuple #[.agg m.cs, .int .i64 0, .int .i64 0])) (rmsg B 0) (.agg MM.z.cs) VRM) := ⟨HA4.out, fun a' q' h => (by rw [HRR.out] at h; cases h; exact ⟨_, rfl, m, es, rfl, VMX.rm HV1.out ⟨hn4, HV2.out.2⟩ hf4 HV4.out⟩), fun y h => (by rw [HRR.out] at h; cases h)⟩
      clear hn4 hf4
      go_wp2_with fail
      rw [← Hww4.out]
      clear j0 j1 j2 j3 j4 j5 j6 j7 j8 j9 j10
      clear g0 g1 g2 g3 g4 g5 g6 g7 g8 g9 g10 y0 y1 y2 y3 y4 y5 y6 y7 y8 y9 y10
      obtain ⟨⟨k0, k1, k2, k3, k4, k5⟩, k6, k7, k8, k9, k10⟩ := row11 HGw4.out
      refine bodyPost_ret (v := .tuple #[.agg m.cs, .int .i64 0, .int .i64 0]) ?_ rfl HP4.out
      simp [results, Tryz.results19, go_sem, MM.cs, MM.z, k0, k1, k2, k3, k4, k5, k6, k7, k8, k9, k10]
end Go.Proofs.YtddffdcjhleejaaGreat.ds
