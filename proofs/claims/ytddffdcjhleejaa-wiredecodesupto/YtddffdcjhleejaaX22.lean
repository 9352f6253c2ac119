import Derived.Test.YtddffdcjhleejaaX21
import Derived.Test.YtddffdcjhleejaaV30
import Derived.Test.YtddffdcjhleejaaV31
namespace Go.Proofs.Ytddffdcjhleejaa.ds
open Go.ChangeShapes Go.WideShapes Go.ChangeAt Go.RowKit Go.Sort
set_option linter.unusedVariables false
set_option linter.unusedSimpArgs false
def VRM (a : Mg) (v : Value) (w' : World) : Prop := ∃ (m : MM) (es : List E), v = .agg m.cs ∧ RM w' m a es
theorem VMX.rm {wB w : World} {a : Mg} {m : MM} {es : List E} (h : (m.kind = a.kind ∧ m.frm = a.frm ∧ m.dst = a.dst ∧ m.call = a.call ∧ m.rng = a.rng ∧ m.own = a.own ∧ m.key = strB a.key ∧ m.dn = a.dn ∧ m.dc = a.dc ∧ ∀ b ∈ a.key, b < 256)) (hs : Nw wB w 86 3 m.set (flat a.set) ∧ m.set.n = a.set.length ∧ a.set.length ≤ 8 ∧ ∀ x ∈ a.set, x.t < 2 ^ 64) (hf : FX wB w m.ws es a.ws) (hl : a.ws.length ≤ 512) : RM w m a es := by
  obtain ⟨h1, h2, h3, h4, h5, h6, h7, h8, h9, h10⟩ := h
  exact ⟨h1, h2, h3, h4, h5, h6, h7, h10, h8, h9, ⟨Sp.of_rd hs.1.rd, hs.2.1.symm, by have := hs.2.1; have := hs.2.2.1; omega, hs.2.2.2⟩, hf.rws (by have := hf.len; omega), hs.1.ok⟩
set_option maxHeartbeats 16000000 in
set_option maxRecDepth 100000 in
theorem rdecode_ok {w : World} {p : Option Addr} {N c : Nat} {B : List Nat} (h : RBs w ⟨p, N, c⟩ B) (hlim : N ≤ 1000000) (hcap : N ≤ c) :
    Calls Try.prog 32 #[.slice p N c] w fun e w' => DeP w w' e (rmsg B 0) (.agg MM.z.cs) VRM := by
  obtain ⟨G, HG⟩ : ∃ G, Hid (G = w.heap.size) := ⟨_, rfl⟩
  obtain ⟨R, HR⟩ : ∃ R, Hid (R = w.heap.size + 1) := ⟨_, rfl⟩
  obtain ⟨w0, hw0⟩ : ∃ w0, w0 = w.alloc (.cells #[.int .i64 0, .int .i64 0, .int .i64 0, .int .i64 0, .int .i64 0, .int .i64 0, .string ⟨#[]⟩, .int .i64 0, .int .i64 0, .slice none 0 0, .slice none 0 0] 29) := ⟨_, rfl⟩
  obtain ⟨w1, hw1⟩ : ∃ w1, w1 = w0.alloc (.cells #[.slice p N c, .int .i64 0, .int .i64 (-1)] 107) := ⟨_, rfl⟩
  have hs0 : w0.heap.size = w.heap.size + 1 := by rw [hw0]; simp
  have HR2 : Hid (R = w0.heap.size) := by unfold Hid; rw [HR.out, hs0]
  have HA0 : Hid (Apart [] w w0) := by unfold Hid; rw [hw0]; exact (Apart.refl [] w).alloc _
  have HA1 : Hid (Apart [] w0 w1) := by unfold Hid; rw [hw1]; exact (Apart.refl [] w0).alloc _
  have HG1 : Hid (w1.heap[G]? = some (.cells #[.int .i64 0, .int .i64 0, .int .i64 0, .int .i64 0, .int .i64 0, .int .i64 0, .string ⟨#[]⟩, .int .i64 0, .int .i64 0, .slice none 0 0, .slice none 0 0] 29 (0, 0))) := by
    have : w0.heap[G]? = some (.cells #[.int .i64 0, .int .i64 0, .int .i64 0, .int .i64 0, .int .i64 0, .int .i64 0, .string ⟨#[]⟩, .int .i64 0, .int .i64 0, .slice none 0 0, .slice none 0 0] 29 (0, 0)) := by rw [HG.out, hw0]; exact heap_alloc_new w _
    exact (HA1.out.block _ (lt_of_heap this) (by simp)).trans this
  have HR1 : Hid (w1.heap[R]? = some (.cells #[.slice p N c, .int .i64 0, .int .i64 (-1)] 107 (0, 0))) := by unfold Hid; rw [HR2.out, hw1]; exact heap_alloc_new w0 _
  have HRX : Hid (RX w w1 R p N c B 0 (-1)) := h.readerX hlim hcap (at' := 0) (HA0.out.trans HA1.out) HR1.out (by rw [HR.out]; omega) (Nat.zero_le _)
  have HC := hid (rmessage_ok HRX.out)
  have HLB : Hid (B.length = N) := h.len
  have HML := hid (rmsg_link B 0)
  clear h hs0
  go_enter Try.func32, Try.ntmps32
  go_wp2_with fail
  rw [← hw0, ← hw1, ← HR.out, ← HG.out]
  clear hw0 hw1
  refine HC.out.mono ?_
  rintro e w2 ⟨ha2, hm⟩
  have HGR : Hid (G ≠ R) := by unfold Hid; rw [HG.out, HR.out]; omega
  have HG2 : Hid (w2.heap[G]? = some (.cells #[.int .i64 0, .int .i64 0, .int .i64 0, .int .i64 0, .int .i64 0, .int .i64 0, .string ⟨#[]⟩, .int .i64 0, .int .i64 0, .slice none 0 0, .slice none 0 0] 29 (0, 0))) := (ha2.block _ (lt_of_heap HG1.out) (by have := HGR.out; simpa using this)).trans HG1.out
  have HA2 : Hid (Apart [] w w2) := (HA0.out.trans HA1.out).trans' ha2 (by intro y hy; simp at hy; rw [hy, HR.out]; exact .inr (by omega))
  clear ha2 HC
  cases hr : rmD B 0 with
  | error x =>
    rw [hr] at hm
    obtain ⟨⟨v, rfl, a0, a1, a2, a3, a4, a5, kb, a7, a8, s9, s10, rfl⟩, q2, hq2⟩ := hm
    have HRR : Hid (rmsg B 0 = .error x) := by unfold Hid; rw [HML.out, hr]; rfl
    have HQ2 := hid hq2
    have hx0 : ((x : Nat) : Int) ≥ 0 := by omega
    have hx1 : ¬ ((x : Nat) : Int) < 0 := by omega
    clear hr hq2
    try dsimp only
    obtain ⟨w3, Hw3⟩ : ∃ w3, Hid (w3 = w2.alloc (.cells #[.int .i64 a0, .int .i64 a1, .int .i64 a2, .int .i64 a3, .int .i64 a4, .int .i64 a5, .string kb, .int .i64 a7, .int .i64 a8, .slice s9.p s9.n s9.c, .slice s10.p s10.n s10.c] 29)) := ⟨_, rfl⟩
    have HS3 : Hid (Apart [] w2 w3) := by unfold Hid; rw [Hw3.out]; exact (Apart.refl [] w2).alloc _
    have HG3 := hid ((HS3.out.block _ (lt_of_heap HG2.out) (by simp)).trans HG2.out)
    have HQ3 := hid (HQ2.out.kept HS3.out)
    have HA3 : Hid (Apart [] w w3) := HA2.out.trans HS3.out
    obtain ⟨z0, z1, z2, z3, z4⟩ := HQ3.out.cells
    rw [Hw3.out] at z0 z1 z2 z3 z4
    go_upto_region 6 with fail
    rw [← Hw3.out]
    clear z0 z1 z2 z3 z4
    have HRl : Hid (R < w3.drew.heap.size) := lt_of_heap HQ3.out.blk
    have HGd : Hid (w3.drew.heap[G]? = some (.cells #[.int .i64 0, .int .i64 0, .int .i64 0, .int .i64 0, .int .i64 0, .int .i64 0, .string ⟨#[]⟩, .int .i64 0, .int .i64 0, .slice none 0 0, .slice none 0 0] 29 (0, 0))) := HG3.out
    have HAd : Hid (Apart [] w w3.drew) := HA3.out.drew
    have hz2 : w3.drew.cell? ⟨R, 2, none⟩ = some (.int .i64 (x : Nat)) := HQ3.out.cells.2.2.1
    refine wp_region_held_drew (S := fun W => W.cell? ⟨R, 2, none⟩ = some (.int .i64 (x : Nat))) (by kernel_rfl) hz2 (fun hHeld => ?_)
    clear hz2
    generalize w3.drew = wd at *
    refine wpAnyH_take (i := 0) (oi := ⟨some 37, _, _, _, _, _⟩) (v := (.agg #[.int .i64 0, .int .i64 0, .int .i64 0, .int .i64 0, .int .i64 0, .int .i64 0, .string ⟨#[]⟩, .int .i64 0, .int .i64 0, .slice none 0 0, .slice none 0 0])) rfl (by kernel_rfl) (by kernel_rfl) (by kernel_rfl) (fun _ _ _ h => h) (Or.inl ⟨by rfl, ?_⟩) (by assumption) ?_
    · intro W hSW; go_simp
    simp only [Act.put, List.setIfInBounds_toArray, List.set_cons_zero, List.set_cons_succ]
    refine wpAnyH_take (i := 1) (oi := ⟨some 38, _, _, _, _, _⟩) (v := (.pointer (some ⟨R, 0, none⟩))) rfl (by kernel_rfl) (by kernel_rfl) (by kernel_rfl) (fun _ _ _ h => h) (Or.inl ⟨by rfl, ?_⟩) (by assumption) ?_
    · intro W hSW; go_simp
    simp only [Act.put, List.setIfInBounds_toArray, List.set_cons_zero, List.set_cons_succ]
    refine wpAnyH_take (i := 2) (oi := ⟨some 39, _, _, _, _, _⟩) (v := (.pointer (some ⟨R, 0, none⟩))) rfl (by kernel_rfl) (by kernel_rfl) (by kernel_rfl) (fun _ _ _ h => h) (Or.inl ⟨by rfl, ?_⟩) (by assumption) ?_
    · intro W hSW; go_simp
    simp only [Act.put, List.setIfInBounds_toArray, List.set_cons_zero, List.set_cons_succ]
    refine wpAnyH_take (i := 3) (oi := ⟨some 40, _, _, _, _, _⟩) (v := (.pointer (some ⟨R, 2, none⟩))) rfl (by kernel_rfl) (by kernel_rfl) (by kernel_rfl) (fun _ _ _ h => h) (Or.inl ⟨by rfl, ?_⟩) (by assumption) ?_
    · intro W hSW; go_simp
    simp only [Act.put, List.setIfInBounds_toArray, List.set_cons_zero, List.set_cons_succ]
    refine wpAnyH_take (i := 4) (oi := ⟨some 41, _, _, _, _, _⟩) (v := (.int .i64 (x : Nat))) rfl (by kernel_rfl) (by kernel_rfl) (by kernel_rfl) (fun _ _ _ h => h) (Or.inl ⟨by rfl, ?_⟩) (by assumption) ?_
    · intro W hSW; go_simp
    simp only [Act.put, List.setIfInBounds_toArray, List.set_cons_zero, List.set_cons_succ]
    obtain ⟨w4, Hww4⟩ : ∃ w4, Hid (w4 = (((((((((((wd.setCell ⟨G, 0, none⟩ (.int .i64 0)).setCell ⟨G, 1, none⟩ (.int .i64 0)).setCell ⟨G, 2, none⟩ (.int .i64 0)).setCell ⟨G, 3, none⟩ (.int .i64 0)).setCell ⟨G, 4, none⟩ (.int .i64 0)).setCell ⟨G, 5, none⟩ (.int .i64 0)).setCell ⟨G, 6, none⟩ (.string ⟨#[]⟩)).setCell ⟨G, 7, none⟩ (.int .i64 0)).setCell ⟨G, 8, none⟩ (.int .i64 0)).setCell ⟨G, 9, none⟩ (.slice none 0 0)).setCell ⟨G, 10, none⟩ (.slice none 0 0))) := ⟨_, rfl⟩
    have HGw4 : Hid (w4.heap[G]? = some (.cells #[.int .i64 0, .int .i64 0, .int .i64 0, .int .i64 0, .int .i64 0, .int .i64 0, .string ⟨#[]⟩, .int .i64 0, .int .i64 0, .slice none 0 0, .slice none 0 0] 29 (0, 0))) := by
      unfold Hid
      rw [Hww4.out]
      have q0 := heap_setCell_same wd G 0 _ 29 (.int .i64 0) HGd.out
      have q1 := heap_setCell_same _ G 1 _ 29 (.int .i64 0) q0
      have q2 := heap_setCell_same _ G 2 _ 29 (.int .i64 0) q1
      have q3 := heap_setCell_same _ G 3 _ 29 (.int .i64 0) q2
      have q4 := heap_setCell_same _ G 4 _ 29 (.int .i64 0) q3
      have q5 := heap_setCell_same _ G 5 _ 29 (.int .i64 0) q4
      have q6 := heap_setCell_same _ G 6 _ 29 (.string ⟨#[]⟩) q5
      have q7 := heap_setCell_same _ G 7 _ 29 (.int .i64 0) q6
      have q8 := heap_setCell_same _ G 8 _ 29 (.int .i64 0) q7
      have q9 := heap_setCell_same _ G 9 _ 29 (.slice none 0 0) q8
      have q10 := heap_setCell_same _ G 10 _ 29 (.slice none 0 0) q9
      simpa using q10
    have HSw4 : Hid (Apart [G] wd w4) := by unfold Hid; rw [Hww4.out]; exact (((((((((((Apart.refl _ _).setCell (.inl (by simp)) _).setCell (.inl (by simp)) _).setCell (.inl (by simp)) _).setCell (.inl (by simp)) _).setCell (.inl (by simp)) _).setCell (.inl (by simp)) _).setCell (.inl (by simp)) _).setCell (.inl (by simp)) _).setCell (.inl (by simp)) _).setCell (.inl (by simp)) _).setCell (.inl (by simp)) _
    obtain ⟨⟨g0, g1, g2, g3, g4, g5⟩, g6, g7, g8, g9, g10⟩ := row11 HGd.out
    have y0 := frozen_of_row _ _ 0 _ _ HGd.out
    have y1 := frozen_of_row _ _ 1 _ _ HGd.out
    have y2 := frozen_of_row _ _ 2 _ _ HGd.out
    have y3 := frozen_of_row _ _ 3 _ _ HGd.out
    have y4 := frozen_of_row _ _ 4 _ _ HGd.out
    have y5 := frozen_of_row _ _ 5 _ _ HGd.out
    have y6 := frozen_of_row _ _ 6 _ _ HGd.out
    have y7 := frozen_of_row _ _ 7 _ _ HGd.out
    have y8 := frozen_of_row _ _ 8 _ _ HGd.out
    have y9 := frozen_of_row _ _ 9 _ _ HGd.out
    have y10 := frozen_of_row _ _ 10 _ _ HGd.out
    have hS4 : w4.cell? ⟨R, 2, none⟩ = some (.int .i64 (x : Nat)) := (HSw4.out.cell (p := ⟨R, 2, none⟩) HRl.out (by have := HGR.out; simp; omega)).trans hHeld
    refine wpAnyH_ready (rs := [5]) (by kernel_rfl) (by simp) ?_
    refine AllReadyH.cons rfl (fun KK hKK => ?_) AllReadyH.nil
    go_simp
    rw [← Hww4.out]
    refine hKK.out _ _ hS4 (fun hHeld2 => ?_)
    clear hKK KK
    clear g0 g1 g2 g3 g4 g5 g6 g7 g8 g9 g10 y0 y1 y2 y3 y4 y5 y6 y7 y8 y9 y10
    refine wpAnyH_take (i := 6) (oi := ⟨some 3, _, _, _, _, _⟩) (v := (.int .i64 (x : Nat))) rfl (by kernel_rfl) (by kernel_rfl) (by kernel_rfl) (fun _ _ _ h => h) (Or.inl ⟨by rfl, ?_⟩) (by assumption) ?_
    · intro W hSW; go_simp
    simp only [Act.put, List.setIfInBounds_toArray, List.set_cons_zero, List.set_cons_succ]
    refine wpAnyH_take (i := 7) (oi := ⟨some 4, _, _, _, _, _⟩) (v := (.int .i64 60)) rfl (by kernel_rfl) (by kernel_rfl) (by kernel_rfl) (fun _ _ _ h => h) (Or.inl ⟨by rfl, ?_⟩) (by assumption) ?_
    · intro W hSW; go_simp
    simp only [Act.put, List.setIfInBounds_toArray, List.set_cons_zero, List.set_cons_succ]
    refine wpAnyH_done (by kernel_rfl) ?_ _
    have HA4 : Hid (Apart [] w w4) := HAd.out.trans' HSw4.out (by intro y hy; simp at hy; rw [hy, HG.out]; exact .inr (Nat.le_refl _))
    have HP4 : Hid (DeP w w4 (.returned (.tuple #[.agg MM.z.cs, .int .i64 (x : Nat), .int .i64 60])) (rmsg B 0) (.agg MM.z.cs) VRM) := ⟨HA4.out, fun a q' h => (by rw [HRR.out] at h; cases h), fun y h => (by rw [HRR.out] at h; cases h; rfl)⟩
    go_wp2_with fail
    obtain ⟨⟨k0, k1, k2, k3, k4, k5⟩, k6, k7, k8, k9, k10⟩ := row11 HGw4.out
    refine bodyPost_ret (v := .tuple #[.agg MM.z.cs, .int .i64 (x : Nat), .int .i64 60]) ?_ rfl HP4.out
    simp [results, Try.results32, go_sem, MM.cs, MM.z, k0, k1, k2, k3, k4, k5, k6, k7, k8, k9, k10]
  | ok tt =>
    obtain ⟨a, q2⟩ := tt
    rw [hr] at hm
    obtain ⟨⟨v, rfl, m, es, rfl, hv1, hv2, hv3, hv4⟩, hq2⟩ := hm
    have HQ2 := hid hq2
    have HV1 := hid hv1
    have HV2 := hid hv2
    have HV3 := hid hv3
    have HV4 := hid hv4
    have HR0 := hid hr
    clear hr hq2 hv1 hv2 hv3 hv4
    unfold MM.cs
    try dsimp only
    obtain ⟨w3, Hw3⟩ : ∃ w3, Hid (w3 = w2.alloc (.cells #[.int .i64 (m.kind : Nat), .int .i64 (m.frm : Nat), .int .i64 (m.dst : Nat), .int .i64 (m.call : Nat), .int .i64 (m.rng : Nat), .int .i64 (m.own : Nat), .string m.key, .int .i64 (m.dn : Nat), .int .i64 (m.dc : Nat), .slice m.set.p m.set.n m.set.c, .slice m.ws.p m.ws.n m.ws.c] 29)) := ⟨_, rfl⟩
    have HS3 : Hid (Apart [] w2 w3) := by unfold Hid; rw [Hw3.out]; exact (Apart.refl [] w2).alloc _
    have HG3 := hid ((HS3.out.block _ (lt_of_heap HG2.out) (by simp)).trans HG2.out)
    have HQ3 := hid (HQ2.out.kept HS3.out)
    have HA3 : Hid (Apart [] w w3) := HA2.out.trans HS3.out
    obtain ⟨z0, z1, z2, z3, z4⟩ := HQ3.out.cells
    rw [Hw3.out] at z0 z1 z2 z3 z4
    by_cases hlt : q2 < N
    · have hlti : ((q2 : Nat) : Int) < (N : Int) := by omega
      have HRR : Hid (rmsg B 0 = .error q2) := by unfold Hid; rw [HML.out, HR0.out, rb_ok, if_neg (by rw [HLB.out]; omega)]
      have hx0 : ((q2 : Nat) : Int) ≥ 0 := by omega
      go_wp2_with fail
      rw [← Hw3.out]
      clear z0 z1 z2 z3 z4
      refine (rwrong_yes HQ3.out (q2 : Nat)).mono ?_
      rintro _ w5 ⟨rfl, ha5, hr5⟩
      have HQ5 := hid hr5
      have HG5 : Hid (w5.heap[G]? = some (.cells #[.int .i64 0, .int .i64 0, .int .i64 0, .int .i64 0, .int .i64 0, .int .i64 0, .string ⟨#[]⟩, .int .i64 0, .int .i64 0, .slice none 0 0, .slice none 0 0] 29 (0, 0))) := (ha5.block _ (lt_of_heap HG3.out) (by have := HGR.out; simpa using this)).trans HG3.out
      have HA5 : Hid (Apart [] w w5) := HA3.out.trans' ha5 (by intro y hy; simp at hy; rw [hy, HR.out]; exact .inr (by omega))
      clear ha5 hr5
      try dsimp only
      obtain ⟨z0, z1, z2, z3, z4⟩ := HQ5.out.cells
      go_upto_region 6 with fail
      clear z0 z1 z2 z3 z4
      have HRl : Hid (R < w5.drew.heap.size) := lt_of_heap HQ5.out.blk
      have HGd : Hid (w5.drew.heap[G]? = some (.cells #[.int .i64 0, .int .i64 0, .int .i64 0, .int .i64 0, .int .i64 0, .int .i64 0, .string ⟨#[]⟩, .int .i64 0, .int .i64 0, .slice none 0 0, .slice none 0 0] 29 (0, 0))) := HG5.out
      have HAd : Hid (Apart [] w w5.drew) := HA5.out.drew
      have hz2 : w5.drew.cell? ⟨R, 2, none⟩ = some (.int .i64 (q2 : Nat)) := HQ5.out.cells.2.2.1
      refine wp_region_held_drew (S := fun W => W.cell? ⟨R, 2, none⟩ = some (.int .i64 (q2 : Nat))) (by kernel_rfl) hz2 (fun hHeld => ?_)
      clear hz2
      generalize w5.drew = wd at *
      refine wpAnyH_take (i := 0) (oi := ⟨some 37, _, _, _, _, _⟩) (v := (.agg #[.int .i64 0, .int .i64 0, .int .i64 0, .int .i64 0, .int .i64 0, .int .i64 0, .string ⟨#[]⟩, .int .i64 0, .int .i64 0, .slice none 0 0, .slice none 0 0])) rfl (by kernel_rfl) (by kernel_rfl) (by kernel_rfl) (fun _ _ _ h => h) (Or.inl ⟨by rfl, ?_⟩) (by assumption) ?_
      · intro W hSW; go_simp
      simp only [Act.put, List.setIfInBounds_toArray, List.set_cons_zero, List.set_cons_succ]
      refine wpAnyH_take (i := 1) (oi := ⟨some 38, _, _, _, _, _⟩) (v := (.pointer (some ⟨R, 0, none⟩))) rfl (by kernel_rfl) (by kernel_rfl) (by kernel_rfl) (fun _ _ _ h => h) (Or.inl ⟨by rfl, ?_⟩) (by assumption) ?_
      · intro W hSW; go_simp
      simp only [Act.put, List.setIfInBounds_toArray, List.set_cons_zero, List.set_cons_succ]
      refine wpAnyH_take (i := 2) (oi := ⟨some 39, _, _, _, _, _⟩) (v := (.pointer (some ⟨R, 0, none⟩))) rfl (by kernel_rfl) (by kernel_rfl) (by kernel_rfl) (fun _ _ _ h => h) (Or.inl ⟨by rfl, ?_⟩) (by assumption) ?_
      · intro W hSW; go_simp
      simp only [Act.put, List.setIfInBounds_toArray, List.set_cons_zero, List.set_cons_succ]
      refine wpAnyH_take (i := 3) (oi := ⟨some 40, _, _, _, _, _⟩) (v := (.pointer (some ⟨R, 2, none⟩))) rfl (by kernel_rfl) (by kernel_rfl) (by kernel_rfl) (fun _ _ _ h => h) (Or.inl ⟨by rfl, ?_⟩) (by assumption) ?_
      · intro W hSW; go_simp
      simp only [Act.put, List.setIfInBounds_toArray, List.set_cons_zero, List.set_cons_succ]
      refine wpAnyH_take (i := 4) (oi := ⟨some 41, _, _, _, _, _⟩) (v := (.int .i64 (q2 : Nat))) rfl (by kernel_rfl) (by kernel_rfl) (by kernel_rfl) (fun _ _ _ h => h) (Or.inl ⟨by rfl, ?_⟩) (by assumption) ?_
      · intro W hSW; go_simp
      simp only [Act.put, List.setIfInBounds_toArray, List.set_cons_zero, List.set_cons_succ]
      obtain ⟨w4, Hww4⟩ : ∃ w4, Hid (w4 = (((((((((((wd.setCell ⟨G, 0, none⟩ (.int .i64 0)).setCell ⟨G, 1, none⟩ (.int .i64 0)).setCell ⟨G, 2, none⟩ (.int .i64 0)).setCell ⟨G, 3, none⟩ (.int .i64 0)).setCell ⟨G, 4, none⟩ (.int .i64 0)).setCell ⟨G, 5, none⟩ (.int .i64 0)).setCell ⟨G, 6, none⟩ (.string ⟨#[]⟩)).setCell ⟨G, 7, none⟩ (.int .i64 0)).setCell ⟨G, 8, none⟩ (.int .i64 0)).setCell ⟨G, 9, none⟩ (.slice none 0 0)).setCell ⟨G, 10, none⟩ (.slice none 0 0))) := ⟨_, rfl⟩
      have HGw4 : Hid (w4.heap[G]? = some (.cells #[.int .i64 0, .int .i64 0, .int .i64 0, .int .i64 0, .int .i64 0, .int .i64 0, .string ⟨#[]⟩, .int .i64 0, .int .i64 0, .slice none 0 0, .slice none 0 0] 29 (0, 0))) := by
        unfold Hid
        rw [Hww4.out]
        have q0 := heap_setCell_same wd G 0 _ 29 (.int .i64 0) HGd.out
        have q1 := heap_setCell_same _ G 1 _ 29 (.int .i64 0) q0
        have q2 := heap_setCell_same _ G 2 _ 29 (.int .i64 0) q1
        have q3 := heap_setCell_same _ G 3 _ 29 (.int .i64 0) q2
        have q4 := heap_setCell_same _ G 4 _ 29 (.int .i64 0) q3
        have q5 := heap_setCell_same _ G 5 _ 29 (.int .i64 0) q4
        have q6 := heap_setCell_same _ G 6 _ 29 (.string ⟨#[]⟩) q5
        have q7 := heap_setCell_same _ G 7 _ 29 (.int .i64 0) q6
        have q8 := heap_setCell_same _ G 8 _ 29 (.int .i64 0) q7
        have q9 := heap_setCell_same _ G 9 _ 29 (.slice none 0 0) q8
        have q10 := heap_setCell_same _ G 10 _ 29 (.slice none 0 0) q9
        simpa using q10
      have HSw4 : Hid (Apart [G] wd w4) := by unfold Hid; rw [Hww4.out]; exact (((((((((((Apart.refl _ _).setCell (.inl (by simp)) _).setCell (.inl (by simp)) _).setCell (.inl (by simp)) _).setCell (.inl (by simp)) _).setCell (.inl (by simp)) _).setCell (.inl (by simp)) _).setCell (.inl (by simp)) _).setCell (.inl (by simp)) _).setCell (.inl (by simp)) _).setCell (.inl (by simp)) _).setCell (.inl (by simp)) _
      obtain ⟨⟨g0, g1, g2, g3, g4, g5⟩, g6, g7, g8, g9, g10⟩ := row11 HGd.out
      have y0 := frozen_of_row _ _ 0 _ _ HGd.out
      have y1 := frozen_of_row _ _ 1 _ _ HGd.out
      have y2 := frozen_of_row _ _ 2 _ _ HGd.out
      have y3 := frozen_of_row _ _ 3 _ _ HGd.out
      have y4 := frozen_of_row _ _ 4 _ _ HGd.out
      have y5 := frozen_of_row _ _ 5 _ _ HGd.out
      have y6 := frozen_of_row _ _ 6 _ _ HGd.out
      have y7 := frozen_of_row _ _ 7 _ _ HGd.out
      have y8 := frozen_of_row _ _ 8 _ _ HGd.out
      have y9 := frozen_of_row _ _ 9 _ _ HGd.out
      have y10 := frozen_of_row _ _ 10 _ _ HGd.out
      have hS4 : w4.cell? ⟨R, 2, none⟩ = some (.int .i64 (q2 : Nat)) := (HSw4.out.cell (p := ⟨R, 2, none⟩) HRl.out (by have := HGR.out; simp; omega)).trans hHeld
      refine wpAnyH_ready (rs := [5]) (by kernel_rfl) (by simp) ?_
      refine AllReadyH.cons rfl (fun KK hKK => ?_) AllReadyH.nil
      go_simp
      rw [← Hww4.out]
      refine hKK.out _ _ hS4 (fun hHeld2 => ?_)
      clear hKK KK
      clear g0 g1 g2 g3 g4 g5 g6 g7 g8 g9 g10 y0 y1 y2 y3 y4 y5 y6 y7 y8 y9 y10
      refine wpAnyH_take (i := 6) (oi := ⟨some 3, _, _, _, _, _⟩) (v := (.int .i64 (q2 : Nat))) rfl (by kernel_rfl) (by kernel_rfl) (by kernel_rfl) (fun _ _ _ h => h) (Or.inl ⟨by rfl, ?_⟩) (by assumption) ?_
      · intro W hSW; go_simp
      simp only [Act.put, List.setIfInBounds_toArray, List.set_cons_zero, List.set_cons_succ]
      refine wpAnyH_take (i := 7) (oi := ⟨some 4, _, _, _, _, _⟩) (v := (.int .i64 60)) rfl (by kernel_rfl) (by kernel_rfl) (by kernel_rfl) (fun _ _ _ h => h) (Or.inl ⟨by rfl, ?_⟩) (by assumption) ?_
      · intro W hSW; go_simp
      simp only [Act.put, List.setIfInBounds_toArray, List.set_cons_zero, List.set_cons_succ]
      refine wpAnyH_done (by kernel_rfl) ?_ _
      have HA4 : Hid (Apart [] w w4) := HAd.out.trans' HSw4.out (by intro y hy; simp at hy; rw [hy, HG.out]; exact .inr (Nat.le_refl _))
      have HP4 : Hid (DeP w w4 (.returned (.tuple #[.agg MM.z.cs, .int .i64 (q2 : Nat), .int .i64 60])) (rmsg B 0) (.agg MM.z.cs) VRM) := ⟨HA4.out, fun a q' h => (by rw [HRR.out] at h; cases h), fun y h => (by rw [HRR.out] at h; cases h; rfl)⟩
      go_wp2_with fail
      obtain ⟨⟨k0, k1, k2, k3, k4, k5⟩, k6, k7, k8, k9, k10⟩ := row11 HGw4.out
      refine bodyPost_ret (v := .tuple #[.agg MM.z.cs, .int .i64 (q2 : Nat), .int .i64 60]) ?_ rfl HP4.out
      simp [results, Try.results32, go_sem, MM.cs, MM.z, k0, k1, k2, k3, k4, k5, k6, k7, k8, k9, k10]
    · have hlti : ¬ ((q2 : Nat) : Int) < (N : Int) := by omega
      have HRR : Hid (rmsg B 0 = .ok (a, q2)) := by
        have hle := HQ3.out.le
        unfold Hid
        rw [HML.out, HR0.out, rb_ok, if_pos (by rw [HLB.out]; omega)]
      obtain ⟨J, HJ⟩ : ∃ J, Hid (J = w2.heap.size) := ⟨_, rfl⟩
      have HJ3 : Hid (w3.heap[J]? = some (.cells #[.int .i64 (m.kind : Nat), .int .i64 (m.frm : Nat), .int .i64 (m.dst : Nat), .int .i64 (m.call : Nat), .int .i64 (m.rng : Nat), .int .i64 (m.own : Nat), .string m.key, .int .i64 (m.dn : Nat), .int .i64 (m.dc : Nat), .slice m.set.p m.set.n m.set.c, .slice m.ws.p m.ws.n m.ws.c] 29 (0, 0))) := by unfold Hid; rw [HJ.out, Hw3.out]; exact heap_alloc_new w2 _
      go_upto_region 7 with fail
      rw [← Hw3.out, ← HJ.out]
      clear z0 z1 z2 z3 z4
      obtain ⟨⟨j0, j1, j2, j3, j4, j5⟩, j6, j7, j8, j9, j10⟩ := row11 HJ3.out
      obtain ⟨w4, Hww4⟩ : ∃ w4, Hid (w4 = (((((((((((w3.setCell ⟨G, 0, none⟩ (.int .i64 (m.kind : Nat))).setCell ⟨G, 1, none⟩ (.int .i64 (m.frm : Nat))).setCell ⟨G, 2, none⟩ (.int .i64 (m.dst : Nat))).setCell ⟨G, 3, none⟩ (.int .i64 (m.call : Nat))).setCell ⟨G, 4, none⟩ (.int .i64 (m.rng : Nat))).setCell ⟨G, 5, none⟩ (.int .i64 (m.own : Nat))).setCell ⟨G, 6, none⟩ (.string m.key)).setCell ⟨G, 7, none⟩ (.int .i64 (m.dn : Nat))).setCell ⟨G, 8, none⟩ (.int .i64 (m.dc : Nat))).setCell ⟨G, 9, none⟩ (.slice m.set.p m.set.n m.set.c)).setCell ⟨G, 10, none⟩ (.slice m.ws.p m.ws.n m.ws.c))) := ⟨_, rfl⟩
      have HGw4 : Hid (w4.heap[G]? = some (.cells #[.int .i64 (m.kind : Nat), .int .i64 (m.frm : Nat), .int .i64 (m.dst : Nat), .int .i64 (m.call : Nat), .int .i64 (m.rng : Nat), .int .i64 (m.own : Nat), .string m.key, .int .i64 (m.dn : Nat), .int .i64 (m.dc : Nat), .slice m.set.p m.set.n m.set.c, .slice m.ws.p m.ws.n m.ws.c] 29 (0, 0))) := by
        unfold Hid
        rw [Hww4.out]
        have q0 := heap_setCell_same w3 G 0 _ 29 (.int .i64 (m.kind : Nat)) HG3.out
        have q1 := heap_setCell_same _ G 1 _ 29 (.int .i64 (m.frm : Nat)) q0
        have q2 := heap_setCell_same _ G 2 _ 29 (.int .i64 (m.dst : Nat)) q1
        have q3 := heap_setCell_same _ G 3 _ 29 (.int .i64 (m.call : Nat)) q2
        have q4 := heap_setCell_same _ G 4 _ 29 (.int .i64 (m.rng : Nat)) q3
        have q5 := heap_setCell_same _ G 5 _ 29 (.int .i64 (m.own : Nat)) q4
        have q6 := heap_setCell_same _ G 6 _ 29 (.string m.key) q5
        have q7 := heap_setCell_same _ G 7 _ 29 (.int .i64 (m.dn : Nat)) q6
        have q8 := heap_setCell_same _ G 8 _ 29 (.int .i64 (m.dc : Nat)) q7
        have q9 := heap_setCell_same _ G 9 _ 29 (.slice m.set.p m.set.n m.set.c) q8
        have q10 := heap_setCell_same _ G 10 _ 29 (.slice m.ws.p m.ws.n m.ws.c) q9
        simpa using q10
      have HSw4 : Hid (Apart [G] w3 w4) := by unfold Hid; rw [Hww4.out]; exact (((((((((((Apart.refl _ _).setCell (.inl (by simp)) _).setCell (.inl (by simp)) _).setCell (.inl (by simp)) _).setCell (.inl (by simp)) _).setCell (.inl (by simp)) _).setCell (.inl (by simp)) _).setCell (.inl (by simp)) _).setCell (.inl (by simp)) _).setCell (.inl (by simp)) _).setCell (.inl (by simp)) _).setCell (.inl (by simp)) _
      obtain ⟨⟨g0, g1, g2, g3, g4, g5⟩, g6, g7, g8, g9, g10⟩ := row11 HG3.out
      have y0 := frozen_of_row _ _ 0 _ _ HG3.out
      have y1 := frozen_of_row _ _ 1 _ _ HG3.out
      have y2 := frozen_of_row _ _ 2 _ _ HG3.out
      have y3 := frozen_of_row _ _ 3 _ _ HG3.out
      have y4 := frozen_of_row _ _ 4 _ _ HG3.out
      have y5 := frozen_of_row _ _ 5 _ _ HG3.out
      have y6 := frozen_of_row _ _ 6 _ _ HG3.out
      have y7 := frozen_of_row _ _ 7 _ _ HG3.out
      have y8 := frozen_of_row _ _ 8 _ _ HG3.out
      have y9 := frozen_of_row _ _ 9 _ _ HG3.out
      have y10 := frozen_of_row _ _ 10 _ _ HG3.out
      have HA4 : Hid (Apart [] w w4) := HA3.out.trans' HSw4.out (by intro y hy; simp at hy; rw [hy, HG.out]; exact .inr (Nat.le_refl _))
      have hn4 : Nw w w4 86 3 m.set (flat a.set) := (HV2.out.1.kept HS3.out).keepT HSw4.out HA4.out (by intro k hk cur e; simp at hk; rw [hk, HG3.out] at e; simp at e)
      have hf4 : FX w w4 m.ws es a.ws := (HV3.out.kept HS3.out).gen HSw4.out HA4.out (by intro k hk; simp at hk; rw [hk]; exact ⟨_, 29, HG3.out, by decide, by decide, by decide⟩)
      have HP4 : Hid (DeP w w4 (.returned (.tuple #[.agg m.cs, .int .i64 0, .int .i64 0])) (rmsg B 0) (.agg MM.z.cs) VRM) := ⟨HA4.out, fun a' q' h => (by rw [HRR.out] at h; cases h; exact ⟨_, rfl, m, es, rfl, VMX.rm HV1.out ⟨hn4, HV2.out.2⟩ hf4 HV4.out⟩), fun y h => (by rw [HRR.out] at h; cases h)⟩
      clear hn4 hf4
      go_wp2_with fail
      rw [← Hww4.out]
      clear j0 j1 j2 j3 j4 j5 j6 j7 j8 j9 j10
      clear g0 g1 g2 g3 g4 g5 g6 g7 g8 g9 g10 y0 y1 y2 y3 y4 y5 y6 y7 y8 y9 y10
      obtain ⟨⟨k0, k1, k2, k3, k4, k5⟩, k6, k7, k8, k9, k10⟩ := row11 HGw4.out
      refine bodyPost_ret (v := .tuple #[.agg m.cs, .int .i64 0, .int .i64 0]) ?_ rfl HP4.out
      simp [results, Try.results32, go_sem, MM.cs, MM.z, k0, k1, k2, k3, k4, k5, k6, k7, k8, k9, k10]
end Go.Proofs.Ytddffdcjhleejaa.ds
namespace Go.Proofs.Ytddffdcjhleejaa.ds
open Go.ChangeShapes Go.WideShapes Go.ChangeAt Go.RowKit Go.Sort
set_option linter.unusedVariables false
set_option linter.unusedSimpArgs false
theorem rmsg_key8 {B : List Nat} (hB : ∀ b ∈ B, b < 256) {q q' : Nat} {a : Mg} (h : rmsg B q = .ok (a, q')) : ∀ b ∈ a.key, b < 256 := by
  rw [rmsg_link] at h
  cases hD : rmD B q with
  | error y => rw [hD] at h; cases h
  | ok tt =>
    obtain ⟨g, q2⟩ := tt
    rw [hD, rb_ok] at h
    have hg : g = a := by
      by_cases h1 : q2 = B.length
      · rw [if_pos h1] at h; cases h; rfl
      · rw [if_neg h1] at h; cases h
    subst hg
    rw [rmD_link] at hD
    cases h3 : hd3 B q with
    | error y => rw [h3] at hD; cases hD
    | ok tt =>
      obtain ⟨a3, q3⟩ := tt
      rw [h3, rb_ok] at hD
      unfold rmX at hD
      cases hx : x10 B a3.1.1.2 q3 with
      | error y => rw [hx] at hD; cases hD
      | ok tt =>
        obtain ⟨a10, q10⟩ := tt
        rw [hx, rb_ok] at hD
        cases hw : rwritesA B (keyX a3.1.1.2 a10.1.1.1.1.2) a10.2 0 0 q10 with
        | error y => rw [hw] at hD; cases hD
        | ok tt =>
          obtain ⟨ws, q11⟩ := tt
          rw [hw, rb_ok] at hD
          cases hD
          obtain ⟨q9, e9⟩ := oxn_prev hx
          obtain ⟨q8, e8⟩ := oxs_prev e9
          obtain ⟨q7, e7⟩ := oxn_prev e8
          obtain ⟨q7', e7'⟩ := oxn_prev e7
          show ∀ b ∈ a10.1.1.1.1.2, b < 256
          unfold x7 at e7'
          cases hf : hasF a3.1.1.2 8 with
          | false =>
            rw [hf] at e7'
            rw [(ox_val e7').1]
            simp
          | true =>
            rw [hf] at e7'
            obtain ⟨q0, _, h1⟩ := tx_prev e7'
            exact (rtext_b8 hB h1).1
theorem zrm (w : World) : RM w MM.z ⟨0, 0, 0, 0, 0, 0, [], 0, 0, [], []⟩ [] :=
  ⟨rfl, rfl, rfl, rfl, rfl, rfl, rfl, by simp, rfl, rfl, L.nil _ _, ⟨Rd.nil _ _, rfl, rfl, fun j hj => absurd hj (Nat.not_lt_zero j), by decide, fun _ => ⟨rfl, rfl⟩⟩, fun _ => ⟨rfl, rfl⟩⟩
set_option maxHeartbeats 16000000 in
set_option maxRecDepth 100000 in
theorem decodes_walk (w : World) (b : Sl) (bs : List Nat) (hb : RBs w b bs) (hbc : b.n ≤ b.c) (hbl : b.n ≤ 9223372036854775807) : Calls Try.prog 7 #[.slice b.p b.n b.c] w fun r w' => r = .returned (.bool true) ∧ Apart [] w w' := by
  have HB := hid hb
  have HBL := hid hb.len
  have H8M : Hid (∀ y ∈ bs ++ [165, 90], y < 256) := fun y hy => by
    rcases List.mem_append.1 hy with h | h
    · exact hb.b8 y h
    · simp at h; omega
  clear hb
  by_cases hbig : b.n ≤ 200000
  · have hbi : ¬ ((b.n : Nat) : Int) > 200000 := by omega
    have HC0 := hid (alive_ok w)
    go_enter Try.func7, Try.ntmps7
    go_wp2_with fail
    refine HC0.out.mono ?_
    rintro _ w1 ⟨rfl, ha1⟩
    have HA1 := hid ha1
    clear ha1 HC0
    have HB1 := hid (HB.out.kept0 HA1.out)
    try dsimp only
    go_wp2_with fail
    refine (bytes_ok HB1.out (by rw [HBL.out]; omega)).mono ?_
    rintro _ w2 ⟨cc, rfl, hb2⟩
    have HBF := hid hb2
    obtain ⟨hcap, gg, hgp⟩ := slice_cap hb2 (by simp)
    have HD2 : Hid (Dat w2 cc.p b.n cc.c bs) := by
      unfold Hid
      have := hb2.pre HB.out.b8 (by rw [HBL.out]; omega) (by simp)
      rw [HBL.out] at this
      exact this
    have hcap2 : b.n ≤ cc.c := by rw [← HBL.out]; exact hcap
    have HA2 : Hid (Apart [] w w2) := HA1.out.trans hb2.nw.ap
    clear hb2 hcap
    obtain ⟨cp, cn, ccc⟩ := cc
    simp only at hgp hcap2 HD2 ⊢
    subst hgp
    have hcap3 : ((b.n : Nat) : Int) ≤ (ccc : Int) := by omega
    try dsimp only
    have HC3 := hid (decode_ok HD2.out)
    have HC5' := hid (fun W (a : Apart [] w W) => rdecode_ok (w := W) (HB.out.kept0 a) (by omega) hbc)
    go_wp2_with fail
    refine HC3.out.mono ?_
    rintro e3 w3 hp3
    have HS3 := hid hp3.ap
    cases hr : rmsg bs 0 with
    | error x =>
      have he3 := hp3.no x hr
      subst he3
      have HRR := hid hr
      clear hp3 hr
      have HC5 : Hid (∀ W, Apart [] w W → Calls Try.prog 32 #[.slice b.p b.n b.c] W fun e w' => Apart [] W w' ∧ e = .returned (.tuple #[.agg #[.int .i64 0, .int .i64 0, .int .i64 0, .int .i64 0, .int .i64 0, .int .i64 0, .string ⟨#[]⟩, .int .i64 0, .int .i64 0, .slice none 0 0, .slice none 0 0], .int .i64 (x : Nat), .int .i64 60])) := fun W a => (HC5'.out W a).mono (fun e w' hp => ⟨hp.ap, hp.no x HRR.out⟩)
      unfold MM.cs MM.z
      try dsimp only
      obtain ⟨w4, hw4⟩ : ∃ w4, w4 = w3.alloc (.cells #[.int .i64 0, .int .i64 0, .int .i64 0, .int .i64 0, .int .i64 0, .int .i64 0, .string ⟨#[]⟩, .int .i64 0, .int .i64 0, .slice none 0 0, .slice none 0 0] 29) := ⟨_, rfl⟩
      obtain ⟨U, HU⟩ : ∃ U, Hid (U = w3.heap.size) := ⟨_, rfl⟩
      have HAw4 : Hid (Apart [] w3 w4) := by unfold Hid; rw [hw4]; exact (Apart.refl [] w3).alloc _
      have HBw4 : Hid (w4.heap[U]? = some (.cells #[.int .i64 0, .int .i64 0, .int .i64 0, .int .i64 0, .int .i64 0, .int .i64 0, .string ⟨#[]⟩, .int .i64 0, .int .i64 0, .slice none 0 0, .slice none 0 0] 29 (0, 0))) := by unfold Hid; rw [HU.out, hw4]; exact heap_alloc_new w3 _
      go_wp2_with fail
      try rw [← hw4]
      try rw [← HU.out]
      clear hw4
      refine (HC5.out w4 (HA2.out.trans (HS3.out.trans HAw4.out))).mono ?_
      rintro _ w5 ⟨ha5, rfl⟩
      have HA5 := hid ha5
      clear ha5
      try dsimp only
      obtain ⟨w6, hw6⟩ : ∃ w6, w6 = w5.alloc (.cells #[.int .i64 0, .int .i64 0, .int .i64 0, .int .i64 0, .int .i64 0, .int .i64 0, .string ⟨#[]⟩, .int .i64 0, .int .i64 0, .slice none 0 0, .slice none 0 0] 29) := ⟨_, rfl⟩
      obtain ⟨V, HV⟩ : ∃ V, Hid (V = w5.heap.size) := ⟨_, rfl⟩
      have HAw6 : Hid (Apart [] w5 w6) := by unfold Hid; rw [hw6]; exact (Apart.refl [] w5).alloc _
      have HBw6 : Hid (w6.heap[V]? = some (.cells #[.int .i64 0, .int .i64 0, .int .i64 0, .int .i64 0, .int .i64 0, .int .i64 0, .string ⟨#[]⟩, .int .i64 0, .int .i64 0, .slice none 0 0, .slice none 0 0] 29 (0, 0))) := by unfold Hid; rw [HV.out, hw6]; exact heap_alloc_new w5 _
      have HCS : Hid (Calls Try.prog 16 #[.agg #[.int .i64 0, .int .i64 0, .int .i64 0, .int .i64 0, .int .i64 0, .int .i64 0, .string ⟨#[]⟩, .int .i64 0, .int .i64 0, .slice none 0 0, .slice none 0 0], .agg #[.int .i64 0, .int .i64 0, .int .i64 0, .int .i64 0, .int .i64 0, .int .i64 0, .string ⟨#[]⟩, .int .i64 0, .int .i64 0, .slice none 0 0, .slice none 0 0]] w6 fun r w' => r = .returned (.bool true) ∧ Apart [] w6 w') := sameMsg_ok MM.z MM.z _ _ _ _ (zrm w6) (zrm w6) true (by simp)
      have HU11 : Hid (w6.heap[U]? = some (.cells #[.int .i64 0, .int .i64 0, .int .i64 0, .int .i64 0, .int .i64 0, .int .i64 0, .string ⟨#[]⟩, .int .i64 0, .int .i64 0, .slice none 0 0, .slice none 0 0] 29 (0, 0))) := ((HA5.out.trans HAw6.out).block _ (lt_of_heap HBw4.out) (by simp)).trans HBw4.out
      have HS6 : Hid (Apart [] w2 w6) := HS3.out.trans (HAw4.out.trans (HA5.out.trans HAw6.out))
      obtain ⟨⟨g0, g1, g2, g3, g4, g5⟩, g6, g7, g8, g9, g10⟩ := row11 HU11.out
      obtain ⟨⟨h0, h1, h2, h3, h4, h5⟩, h6, h7, h8, h9, h10⟩ := row11 HBw6.out
      rw [hw6] at g0 g1 g2 g3 g4 g5 g6 g7 g8 g9 g10 h0 h1 h2 h3 h4 h5 h6 h7 h8 h9 h10
      rw [HV.out] at h0 h1 h2 h3 h4 h5 h6 h7 h8 h9 h10
      go_wp2_with fail
      rw [← hw6]
      clear hw6 g0 g1 g2 g3 g4 g5 g6 g7 g8 g9 g10 h0 h1 h2 h3 h4 h5 h6 h7 h8 h9 h10
      refine HCS.out.mono ?_
      rintro _ w7 ⟨rfl, ha7⟩
      have HS7 : Hid (Apart [] w2 w7) := HS6.out.trans ha7
      clear ha7
      have HB7 := hid (HB.out.kept0 (HA2.out.trans HS7.out))
      try dsimp only
      go_wp2_with fail
      refine (bytes_ok HB7.out (by rw [HBL.out]; omega)).mono ?_
      rintro _ w8 ⟨c8, rfl, hb8⟩
      have HB8 := hid hb8
      have HS8 : Hid (Apart [] w2 w8) := HS7.out.trans hb8.nw.ap
      clear hb8
      have HCB : Hid (Calls Try.prog 18 #[.slice (some ⟨gg, 0, none⟩) cn ccc, .slice c8.p c8.n c8.c] w8 fun r w' => r = .returned (.bool true) ∧ w' = w8) := sameBytes_ok ((HBF.out.kept HS8.out).rbs H8M.out) (HB8.out.rbs H8M.out) true (by simp)
      try dsimp only
      go_wp2_with fail
      refine HCB.out.mono ?_
      rintro _ wn ⟨rfl, hwn⟩
      rw [hwn]
      clear hwn wn
      try dsimp only
      go_wp2_with fail
      go_ret
      exact ⟨rfl, HA2.out.trans HS8.out⟩
    | ok tt =>
      obtain ⟨a, q2⟩ := tt
      obtain ⟨v3, he3, hv3⟩ := hp3.ok a q2 hr
      subst he3
      have hvm := (rmsg_iff HB.out.b8 _ _ _).1 hr
      obtain ⟨m3, es3, rfl, hrm3⟩ := hv3.rm hvm.1 (rmsg_key8 HB.out.b8 hr)
      have HRM3 := hid hrm3
      have HRR := hid hr
      clear hp3 hr hv3 hrm3 hvm
      have HC5 : Hid (∀ W, Apart [] w W → Calls Try.prog 32 #[.slice b.p b.n b.c] W fun e w' => Apart [] W w' ∧ ∃ (m5 : MM) (es5 : List E), e = .returned (.tuple #[.agg #[.int .i64 (m5.kind : Nat), .int .i64 (m5.frm : Nat), .int .i64 (m5.dst : Nat), .int .i64 (m5.call : Nat), .int .i64 (m5.rng : Nat), .int .i64 (m5.own : Nat), .string m5.key, .int .i64 (m5.dn : Nat), .int .i64 (m5.dc : Nat), .slice m5.set.p m5.set.n m5.set.c, .slice m5.ws.p m5.ws.n m5.ws.c], .int .i64 0, .int .i64 0]) ∧ RM w' m5 a es5) := fun W aa => (HC5'.out W aa).mono (fun e w' hp => ⟨hp.ap, (by
        obtain ⟨v5, he5, m5, es5, hv5, hr5⟩ := hp.ok a q2 HRR.out
        exact ⟨m5, es5, by rw [he5, hv5]; rfl, hr5⟩)⟩)
      unfold MM.cs
      try dsimp only
      obtain ⟨w4, hw4⟩ : ∃ w4, w4 = w3.alloc (.cells #[.int .i64 (m3.kind : Nat), .int .i64 (m3.frm : Nat), .int .i64 (m3.dst : Nat), .int .i64 (m3.call : Nat), .int .i64 (m3.rng : Nat), .int .i64 (m3.own : Nat), .string m3.key, .int .i64 (m3.dn : Nat), .int .i64 (m3.dc : Nat), .slice m3.set.p m3.set.n m3.set.c, .slice m3.ws.p m3.ws.n m3.ws.c] 29) := ⟨_, rfl⟩
      obtain ⟨U, HU⟩ : ∃ U, Hid (U = w3.heap.size) := ⟨_, rfl⟩
      have HAw4 : Hid (Apart [] w3 w4) := by unfold Hid; rw [hw4]; exact (Apart.refl [] w3).alloc _
      have HBw4 : Hid (w4.heap[U]? = some (.cells #[.int .i64 (m3.kind : Nat), .int .i64 (m3.frm : Nat), .int .i64 (m3.dst : Nat), .int .i64 (m3.call : Nat), .int .i64 (m3.rng : Nat), .int .i64 (m3.own : Nat), .string m3.key, .int .i64 (m3.dn : Nat), .int .i64 (m3.dc : Nat), .slice m3.set.p m3.set.n m3.set.c, .slice m3.ws.p m3.ws.n m3.ws.c] 29 (0, 0))) := by unfold Hid; rw [HU.out, hw4]; exact heap_alloc_new w3 _
      go_wp2_with fail
      try rw [← hw4]
      try rw [← HU.out]
      clear hw4
      refine (HC5.out w4 (HA2.out.trans (HS3.out.trans HAw4.out))).mono ?_
      rintro _ w5 ⟨ha5, m5, es5, rfl, hrm5⟩
      have HA5 := hid ha5
      have HRM5 := hid hrm5
      clear ha5 hrm5
      try dsimp only
      obtain ⟨w6, hw6⟩ : ∃ w6, w6 = w5.alloc (.cells #[.int .i64 (m5.kind : Nat), .int .i64 (m5.frm : Nat), .int .i64 (m5.dst : Nat), .int .i64 (m5.call : Nat), .int .i64 (m5.rng : Nat), .int .i64 (m5.own : Nat), .string m5.key, .int .i64 (m5.dn : Nat), .int .i64 (m5.dc : Nat), .slice m5.set.p m5.set.n m5.set.c, .slice m5.ws.p m5.ws.n m5.ws.c] 29) := ⟨_, rfl⟩
      obtain ⟨V, HV⟩ : ∃ V, Hid (V = w5.heap.size) := ⟨_, rfl⟩
      have HAw6 : Hid (Apart [] w5 w6) := by unfold Hid; rw [hw6]; exact (Apart.refl [] w5).alloc _
      have HBw6 : Hid (w6.heap[V]? = some (.cells #[.int .i64 (m5.kind : Nat), .int .i64 (m5.frm : Nat), .int .i64 (m5.dst : Nat), .int .i64 (m5.call : Nat), .int .i64 (m5.rng : Nat), .int .i64 (m5.own : Nat), .string m5.key, .int .i64 (m5.dn : Nat), .int .i64 (m5.dc : Nat), .slice m5.set.p m5.set.n m5.set.c, .slice m5.ws.p m5.ws.n m5.ws.c] 29 (0, 0))) := by unfold Hid; rw [HV.out, hw6]; exact heap_alloc_new w5 _
      have HCS : Hid (Calls Try.prog 16 #[.agg #[.int .i64 (m3.kind : Nat), .int .i64 (m3.frm : Nat), .int .i64 (m3.dst : Nat), .int .i64 (m3.call : Nat), .int .i64 (m3.rng : Nat), .int .i64 (m3.own : Nat), .string m3.key, .int .i64 (m3.dn : Nat), .int .i64 (m3.dc : Nat), .slice m3.set.p m3.set.n m3.set.c, .slice m3.ws.p m3.ws.n m3.ws.c], .agg #[.int .i64 (m5.kind : Nat), .int .i64 (m5.frm : Nat), .int .i64 (m5.dst : Nat), .int .i64 (m5.call : Nat), .int .i64 (m5.rng : Nat), .int .i64 (m5.own : Nat), .string m5.key, .int .i64 (m5.dn : Nat), .int .i64 (m5.dc : Nat), .slice m5.set.p m5.set.n m5.set.c, .slice m5.ws.p m5.ws.n m5.ws.c]] w6 fun r w' => r = .returned (.bool true) ∧ Apart [] w6 w') := sameMsg_ok m3 m5 a a es3 es5 (HRM3.out.kept0 (HAw4.out.trans (HA5.out.trans HAw6.out))) (HRM5.out.kept0 HAw6.out) true (by simp)
      have HU11 : Hid (w6.heap[U]? = some (.cells #[.int .i64 (m3.kind : Nat), .int .i64 (m3.frm : Nat), .int .i64 (m3.dst : Nat), .int .i64 (m3.call : Nat), .int .i64 (m3.rng : Nat), .int .i64 (m3.own : Nat), .string m3.key, .int .i64 (m3.dn : Nat), .int .i64 (m3.dc : Nat), .slice m3.set.p m3.set.n m3.set.c, .slice m3.ws.p m3.ws.n m3.ws.c] 29 (0, 0))) := ((HA5.out.trans HAw6.out).block _ (lt_of_heap HBw4.out) (by simp)).trans HBw4.out
      have HS6 : Hid (Apart [] w2 w6) := HS3.out.trans (HAw4.out.trans (HA5.out.trans HAw6.out))
      obtain ⟨⟨g0, g1, g2, g3, g4, g5⟩, g6, g7, g8, g9, g10⟩ := row11 HU11.out
      obtain ⟨⟨h0, h1, h2, h3, h4, h5⟩, h6, h7, h8, h9, h10⟩ := row11 HBw6.out
      rw [hw6] at g0 g1 g2 g3 g4 g5 g6 g7 g8 g9 g10 h0 h1 h2 h3 h4 h5 h6 h7 h8 h9 h10
      rw [HV.out] at h0 h1 h2 h3 h4 h5 h6 h7 h8 h9 h10
      go_wp2_with fail
      rw [← hw6]
      clear hw6 g0 g1 g2 g3 g4 g5 g6 g7 g8 g9 g10 h0 h1 h2 h3 h4 h5 h6 h7 h8 h9 h10
      refine HCS.out.mono ?_
      rintro _ w7 ⟨rfl, ha7⟩
      have HS7 : Hid (Apart [] w2 w7) := HS6.out.trans ha7
      clear ha7
      have HB7 := hid (HB.out.kept0 (HA2.out.trans HS7.out))
      try dsimp only
      go_wp2_with fail
      refine (bytes_ok HB7.out (by rw [HBL.out]; omega)).mono ?_
      rintro _ w8 ⟨c8, rfl, hb8⟩
      have HB8 := hid hb8
      have HS8 : Hid (Apart [] w2 w8) := HS7.out.trans hb8.nw.ap
      clear hb8
      have HCB : Hid (Calls Try.prog 18 #[.slice (some ⟨gg, 0, none⟩) cn ccc, .slice c8.p c8.n c8.c] w8 fun r w' => r = .returned (.bool true) ∧ w' = w8) := sameBytes_ok ((HBF.out.kept HS8.out).rbs H8M.out) (HB8.out.rbs H8M.out) true (by simp)
      try dsimp only
      go_wp2_with fail
      refine HCB.out.mono ?_
      rintro _ wn ⟨rfl, hwn⟩
      rw [hwn]
      clear hwn wn
      try dsimp only
      go_wp2_with fail
      go_ret
      exact ⟨rfl, HA2.out.trans HS8.out⟩
  · have hbi : ((b.n : Nat) : Int) > 200000 := by omega
    go_enter Try.func7, Try.ntmps7
    go_wp2_with fail
    go_ret
    exact ⟨rfl, Apart.refl _ _⟩
end Go.Proofs.Ytddffdcjhleejaa.ds
