import Derived.Test.YtddffdcjhleejaaV28
namespace Go.Proofs.Ytddffdcjhleejaa.ds
open Go.ChangeShapes Go.WideShapes Go.ChangeAt Go.RowKit Go.Sort
set_option linter.unusedVariables false
set_option linter.unusedSimpArgs false
def zE : Array Value := #[.int .i64 0, .int .i64 0, .string ⟨#[]⟩, .bool false, .slice none 0 0, .slice none 0 0]
theorem crow {w : World} {M t : Nat} {cs : Array Value} (h : w.heap[M]? = some (.cells cs t (0, 0))) (i : Nat) (v : Value) (hv : cs[i]? = some v) : w.cell? ⟨M, i, none⟩ = some v := by
  rw [cell_of_row _ _ _ _ _ _ h]; exact hv
theorem VWr.oth {wB w w' : World} {a : Wr} {v : Value} {X : Nat} {cur : Array Value} {t : Nat} (h : VWr wB a v w) (ap : Apart [X] w w') (hX : w.heap[X]? = some (.cells cur t (0, 0))) (ht : t ≠ 5 ∧ t ≠ 86) (hn : wB.heap.size ≤ X) : VWr wB a v w' := by
  obtain ⟨e, h1, h2⟩ := h
  exact ⟨e, h1, h2.oth ap hX ht hn⟩
set_option maxHeartbeats 8000000 in
set_option maxRecDepth 100000 in
theorem read_wr {w : World} {p : Option Addr} {N c : Nat} {B : List Nat} (h : Dat w p N c B) (q : Nat) (hq : q ≤ N) :
    Calls Try.prog 56 #[.slice p N c, .int .i64 (q : Nat), .func (.func 57) #[] #[]] w fun e w' => RdP w w' e (rlone B q) (.agg zE) (VWr w) := by
  have hmf : ∀ (fn : Fn) (first cap : Array Value) (w : World), (Instr.makeFunc fn first cap).run Try.prog w = .ok (.func fn first cap) w := fun _ _ _ _ => rfl
  have HDt := hid h
  have hl := h.lim
  have hq0 : ¬ ((q : Nat) : Int) < 0 := by omega
  have hqN : ¬ ((q : Nat) : Int) > (N : Int) := by omega
  obtain ⟨wa, hwa⟩ : ∃ wa, wa = w.alloc (.cells #[Value.int IntKind.i64 0, Value.int IntKind.i64 0, Value.string { data := #[] }, Value.bool false, Value.slice none 0 0, Value.slice none 0 0] 41) := ⟨_, rfl⟩
  obtain ⟨wb, hwb⟩ : ∃ wb, wb = wa.alloc (.cells #[.int .i64 0] 3) := ⟨_, rfl⟩
  obtain ⟨wc, hwc⟩ : ∃ wc, wc = wb.alloc (.cells #[.int .i64 0] 30) := ⟨_, rfl⟩
  obtain ⟨w4, hw4⟩ : ∃ w4, w4 = wc.alloc (.cells #[.slice p N c, .int .i64 (q : Nat)] 124) := ⟨_, rfl⟩
  obtain ⟨G, HG⟩ : ∃ G, Hid (G = w.heap.size) := ⟨_, rfl⟩
  have sa : wa.heap.size = G + 1 := by rw [hwa, HG.out]; simp
  have sb : wb.heap.size = G + 1 + 1 := by rw [hwb]; simp [sa]
  have sc : wc.heap.size = G + 1 + 1 + 1 := by rw [hwc]; simp [sb]
  have aa : Apart [] w wa := by rw [hwa]; exact (Apart.refl [] w).alloc _
  have ab : Apart [] wa wb := by rw [hwb]; exact (Apart.refl [] wa).alloc _
  have ac : Apart [] wb wc := by rw [hwc]; exact (Apart.refl [] wb).alloc _
  have ad : Apart [] wc w4 := by rw [hw4]; exact (Apart.refl [] wc).alloc _
  have g1 : wa.heap[G]? = some (.cells zE 41 (0, 0)) := by rw [HG.out, hwa]; exact heap_alloc_new w _
  have g2 : wb.heap[G + 1]? = some (.cells #[.int .i64 0] 3 (0, 0)) := by rw [← sa, hwb]; exact heap_alloc_new wa _
  have g3 : wc.heap[G + 1 + 1]? = some (.cells #[.int .i64 0] 30 (0, 0)) := by rw [← sb, hwc]; exact heap_alloc_new wb _
  have g4 : w4.heap[G + 1 + 1 + 1]? = some (.cells #[.slice p N c, .int .i64 (q : Nat)] 124 (0, 0)) := by rw [← sc, hw4]; exact heap_alloc_new wc _
  have HG4 : Hid (w4.heap[G]? = some (.cells zE 41 (0, 0))) := ((ab.trans (ac.trans ad)).block _ (lt_of_heap g1) (by simp)).trans g1
  have HE4 : Hid (w4.heap[G + 1]? = some (.cells #[.int .i64 0] 3 (0, 0))) := ((ac.trans ad).block _ (lt_of_heap g2) (by simp)).trans g2
  have HF4 : Hid (w4.heap[G + 1 + 1]? = some (.cells #[.int .i64 0] 30 (0, 0))) := (ad.block _ (lt_of_heap g3) (by simp)).trans g3
  have HA4 : Hid (Apart [] w w4) := aa.trans (ab.trans (ac.trans ad))
  have HRB := hid (HDt.out.reader HA4.out g4 (by have := HG.out; omega) hq)
  clear h aa ab ac ad g1 g2 g3 g4 sa sb sc
  rw [hwc, hwb, hwa] at hw4
  clear hwa hwb hwc
  go_enter_defers Try.func56, Try.ntmps56
  go_wp2_with fail
  rw [← hw4, ← HG.out]
  clear hw4
  refine (lone_ok HRB.out).mono ?_
  rintro e w5 ⟨ha, hm⟩
  have HS5 := hid ha
  have HG5 := hid (keepB ha HG4.out (lt_of_heap HG4.out) (by omega))
  have HE5 := hid (keepB ha HE4.out (lt_of_heap HE4.out) (by omega))
  have HF5 := hid (keepB ha HF4.out (lt_of_heap HF4.out) (by omega))
  have HA5 : Hid (Apart [] w w5) := HA4.out.trans' ha (by intro y hy; simp at hy; rw [hy]; have := HG.out; exact .inr (by omega))
  clear ha
  cases hr : rlone B q with
  | error x =>
    rw [hr] at hm
    have he : e = wrongAt x := hm
    subst he
    unfold wrongAt
    have HR := hid hr
    clear hr hm
    try dsimp only
    refine leaves_cons (f := 95) (args := #[.pointer (some ⟨G + 1, 0, none⟩), .pointer (some ⟨G + 1 + 1, 0, none⟩)]) (by simp) (by simp [go_sem]) ?_
    refine (catch95_panicking ⟨G + 1, 0, none⟩ ⟨G + 1 + 1, 0, none⟩ x (.int .i64 0) (.int .i64 0) w5 (by rw [cell_of_row _ _ _ _ _ _ HE5.out]; rfl) (frozen_of_row _ _ 0 _ _ HE5.out) (by rw [cell_of_row _ _ _ _ _ _ HF5.out]; rfl) (frozen_of_row _ _ 0 _ _ HF5.out) (by simp)).mono ?_
    rintro e2 u' w6 ⟨rfl, rfl, hw6⟩
    have HS6 : Hid (Apart [G + 1, G + 1 + 1] w5 w6) := by unfold Hid; rw [hw6]; exact ((Apart.refl _ _).setCell (.inl (by simp)) _).setCell (.inl (by simp)) _
    have HE6 : Hid (w6.heap[G + 1]? = some (.cells #[.int .i64 (x : Nat)] 3 (0, 0))) := by
      unfold Hid
      rw [hw6]
      have h1 := heap_setCell_same w5 (G + 1) 0 _ 3 (.int .i64 (x : Nat)) HE5.out
      have a2 : Apart [G + 1 + 1] (w5.setCell ⟨G + 1, 0, none⟩ (.int .i64 (x : Nat))) ((w5.setCell ⟨G + 1, 0, none⟩ (.int .i64 (x : Nat))).setCell ⟨G + 1 + 1, 0, none⟩ (.int .i64 60)) := (Apart.refl _ _).setCell (.inl (by simp)) _
      have := (a2.block _ (lt_of_heap h1) (by simp)).trans h1
      simpa using this
    have HF6 : Hid (w6.heap[G + 1 + 1]? = some (.cells #[.int .i64 60] 30 (0, 0))) := by
      unfold Hid
      rw [hw6]
      have a1 : Apart [G + 1] w5 (w5.setCell ⟨G + 1, 0, none⟩ (.int .i64 (x : Nat))) := (Apart.refl _ _).setCell (.inl (by simp)) _
      have h0 := (a1.block _ (lt_of_heap HF5.out) (by simp)).trans HF5.out
      have h1 := heap_setCell_same _ (G + 1 + 1) 0 _ 30 (.int .i64 60) h0
      simpa using h1
    have HG6 : Hid (w6.heap[G]? = some (.cells zE 41 (0, 0))) := (HS6.out.block _ (lt_of_heap HG5.out) (by simp; omega)).trans HG5.out
    have HA6 : Hid (Apart [] w w6) := HA5.out.trans' HS6.out (by intro y hy; simp at hy; have := HG.out; rcases hy with hy | hy <;> (rw [hy]; exact .inr (by omega)))
    clear hw6
    have c0 : w6.cell? ⟨G, 0, none⟩ = _ := crow HG6.out 0 _ rfl
    have c1 : w6.cell? ⟨G, 1, none⟩ = _ := crow HG6.out 1 _ rfl
    have c2 : w6.cell? ⟨G, 2, none⟩ = _ := crow HG6.out 2 _ rfl
    have c3 : w6.cell? ⟨G, 3, none⟩ = _ := crow HG6.out 3 _ rfl
    have c4 : w6.cell? ⟨G, 4, none⟩ = _ := crow HG6.out 4 _ rfl
    have c5 : w6.cell? ⟨G, 5, none⟩ = _ := crow HG6.out 5 _ rfl
    have ce : w6.cell? ⟨G + 1, 0, none⟩ = some (.int .i64 (x : Nat)) := by rw [cell_of_row _ _ _ _ _ _ HE6.out]; rfl
    have cf : w6.cell? ⟨G + 1 + 1, 0, none⟩ = some (.int .i64 60) := by rw [cell_of_row _ _ _ _ _ _ HF6.out]; rfl
    have HP : Hid (RdP w w6 (.returned (.tuple #[.agg zE, .int .i64 (x : Nat), .int .i64 60])) (rlone B q) (.agg zE) (VWr w)) := ⟨HA6.out, fun a q' h => (by rw [HR.out] at h; cases h), fun y h => (by rw [HR.out] at h; cases h; rfl)⟩
    simp [Leaves, settle, results, Try.results56, go_sem, c0, c1, c2, c3, c4, c5, ce, cf]
    exact HP.out
  | ok t =>
    obtain ⟨a, q'⟩ := t
    rw [hr] at hm
    obtain ⟨⟨v, hev, hv⟩, hrb⟩ := hm
    subst hev
    have HR := hid hr
    have HRb := hid hrb
    have HV5 := hid hv
    obtain ⟨e0, hvm, -⟩ := hv
    clear hr hrb
    subst hvm
    unfold aggE
    try dsimp only
    have z0 : w5.cell? ⟨G, 0, none⟩ = _ := crow HG5.out 0 _ rfl
    have y0 := frozen_of_row _ _ 0 _ _ HG5.out
    have z1 : w5.cell? ⟨G, 1, none⟩ = _ := crow HG5.out 1 _ rfl
    have y1 := frozen_of_row _ _ 1 _ _ HG5.out
    have z2 : w5.cell? ⟨G, 2, none⟩ = _ := crow HG5.out 2 _ rfl
    have y2 := frozen_of_row _ _ 2 _ _ HG5.out
    have z3 : w5.cell? ⟨G, 3, none⟩ = _ := crow HG5.out 3 _ rfl
    have y3 := frozen_of_row _ _ 3 _ _ HG5.out
    have z4 : w5.cell? ⟨G, 4, none⟩ = _ := crow HG5.out 4 _ rfl
    have y4 := frozen_of_row _ _ 4 _ _ HG5.out
    have z5 : w5.cell? ⟨G, 5, none⟩ = _ := crow HG5.out 5 _ rfl
    have y5 := frozen_of_row _ _ 5 _ _ HG5.out
    obtain ⟨w6, Hw6⟩ : ∃ w6, Hid (w6 = ((((((w5.setCell ⟨G, 0, none⟩ (.int .i64 e0.n)).setCell ⟨G, 1, none⟩ (.int .i64 e0.c)).setCell ⟨G, 2, none⟩ (.string e0.k)).setCell ⟨G, 3, none⟩ (.bool e0.d)).setCell ⟨G, 4, none⟩ (.slice e0.v.p e0.v.n e0.v.c)).setCell ⟨G, 5, none⟩ (.slice e0.x.p e0.x.n e0.x.c))) := ⟨_, rfl⟩
    have HG6 : Hid (w6.heap[G]? = some (.cells (E.cs e0).toArray 41 (0, 0))) := by
      unfold Hid
      rw [Hw6.out]
      have h1 := heap_setCell_same w5 G 0 _ 41 (.int .i64 e0.n) HG5.out
      have h2 := heap_setCell_same _ G 1 _ 41 (.int .i64 e0.c) h1
      have h3 := heap_setCell_same _ G 2 _ 41 (.string e0.k) h2
      have h4 := heap_setCell_same _ G 3 _ 41 (.bool e0.d) h3
      have h5 := heap_setCell_same _ G 4 _ 41 (.slice e0.v.p e0.v.n e0.v.c) h4
      have h6 := heap_setCell_same _ G 5 _ 41 (.slice e0.x.p e0.x.n e0.x.c) h5
      simpa [zE, E.cs, Sl.v] using h6
    have HS6 : Hid (Apart [G] w5 w6) := by unfold Hid; rw [Hw6.out]; exact (((((((Apart.refl _ _).setCell (.inl (by simp)) _).setCell (.inl (by simp)) _).setCell (.inl (by simp)) _).setCell (.inl (by simp)) _).setCell (.inl (by simp)) _).setCell (.inl (by simp)) _)
    have HE6 := hid (keepB HS6.out HE5.out (lt_of_heap HE5.out) (by omega))
    have HF6 := hid (keepB HS6.out HF5.out (lt_of_heap HF5.out) (by omega))
    have HR6 := hid (HRb.out.other HS6.out HG5.out (by decide) (by have := HG.out; omega))
    have HV6 := hid (HV5.out.oth HS6.out HG5.out (by decide) (by have := HG.out; omega))
    go_wp2_with fail
    rw [← Hw6.out]
    clear z0 z1 z2 z3 z4 z5 y0 y1 y2 y3 y4 y5
    obtain ⟨r0, r1, r2⟩ := HR6.out.cells
    refine wp_region_noPanic ?_
    refine wp_region_held_drew (S := fun W => W.heap[G]? = some (.cells (E.cs e0).toArray 41 (0, 0)) ∧ W.cell? ⟨G + 1 + 1 + 1, 1, none⟩ = some (.int .i64 (q' : Nat))) (by kernel_rfl) ⟨((Apart.refl [] w6).drew.block _ (lt_of_heap HG6.out) (by simp)).trans HG6.out, ((HR6.out.kept (Apart.refl [] w6).drew).cells).2.1⟩ (fun hHeld => ?_)
    clear r0 r1 r2
    have HSd : Hid (Apart [] w6 w6.drew) := (Apart.refl [] w6).drew
    generalize w6.drew = wd at *
    have HGd : Hid (wd.heap[G]? = some (.cells (E.cs e0).toArray 41 (0, 0))) := (HSd.out.block _ (lt_of_heap HG6.out) (by simp)).trans HG6.out
    have HEd := hid ((HSd.out.block _ (lt_of_heap HE6.out) (by simp)).trans HE6.out)
    have HFd := hid ((HSd.out.block _ (lt_of_heap HF6.out) (by simp)).trans HF6.out)
    have HRd := hid (HR6.out.kept HSd.out)
    have HVd := hid (HV6.out.oth (X := G) (HSd.out.mono (by simp)) HG6.out (by decide) (by have := HG.out; omega))
    have hS0 : wd.heap[G]? = some (.cells (E.cs e0).toArray 41 (0, 0)) ∧ wd.cell? ⟨G + 1 + 1 + 1, 1, none⟩ = some (.int .i64 (q' : Nat)) := ⟨HGd.out, HRd.out.cells.2.1⟩
    refine tk 0 27 (.agg #[.int .i64 e0.n, .int .i64 e0.c, .string e0.k, .bool e0.d, .slice e0.v.p e0.v.n e0.v.c, .slice e0.x.p e0.x.n e0.x.c]) rfl ?_ ?_
    · intro W hSW
      obtain ⟨hSW, _⟩ := hSW
      have z0 : W.cell? ⟨G, 0, none⟩ = some (.int .i64 e0.n) := crow hSW 0 _ rfl
      have z1 : W.cell? ⟨G, 1, none⟩ = some (.int .i64 e0.c) := crow hSW 1 _ rfl
      have z2 : W.cell? ⟨G, 2, none⟩ = some (.string e0.k) := crow hSW 2 _ rfl
      have z3 : W.cell? ⟨G, 3, none⟩ = some (.bool e0.d) := crow hSW 3 _ rfl
      have z4 : W.cell? ⟨G, 4, none⟩ = some (.slice e0.v.p e0.v.n e0.v.c) := crow hSW 4 _ rfl
      have z5 : W.cell? ⟨G, 5, none⟩ = some (.slice e0.x.p e0.x.n e0.x.c) := crow hSW 5 _ rfl
      clear hSW
      go_simp
    simp only [Act.put, List.setIfInBounds_toArray, List.set_cons_zero, List.set_cons_succ]
    refine tk 1 28 (.pointer (some ⟨G + 1 + 1 + 1, 0, none⟩)) rfl ?_ ?_
    · intro W hSW; go_simp
    simp only [Act.put, List.setIfInBounds_toArray, List.set_cons_zero, List.set_cons_succ]
    refine tk 2 29 (.pointer (some ⟨G + 1 + 1 + 1, 0, none⟩)) rfl ?_ ?_
    · intro W hSW; go_simp
    simp only [Act.put, List.setIfInBounds_toArray, List.set_cons_zero, List.set_cons_succ]
    refine tk 3 30 (.pointer (some ⟨G + 1 + 1 + 1, 1, none⟩)) rfl ?_ ?_
    · intro W hSW; go_simp
    simp only [Act.put, List.setIfInBounds_toArray, List.set_cons_zero, List.set_cons_succ]
    refine tk 4 31 (.int .i64 (q' : Nat)) rfl ?_ ?_
    · intro W hSW; have z1 := hSW.2; go_simp
    simp only [Act.put, List.setIfInBounds_toArray, List.set_cons_zero, List.set_cons_succ]
    obtain ⟨w7, Hw7⟩ : ∃ w7, Hid (w7 = ((((((wd.setCell ⟨G, 0, none⟩ (.int .i64 e0.n)).setCell ⟨G, 1, none⟩ (.int .i64 e0.c)).setCell ⟨G, 2, none⟩ (.string e0.k)).setCell ⟨G, 3, none⟩ (.bool e0.d)).setCell ⟨G, 4, none⟩ (.slice e0.v.p e0.v.n e0.v.c)).setCell ⟨G, 5, none⟩ (.slice e0.x.p e0.x.n e0.x.c))) := ⟨_, rfl⟩
    have HG7 : Hid (w7.heap[G]? = some (.cells (E.cs e0).toArray 41 (0, 0))) := by
      unfold Hid
      rw [Hw7.out]
      have h1 := heap_setCell_same wd G 0 _ 41 (.int .i64 e0.n) HGd.out
      have h2 := heap_setCell_same _ G 1 _ 41 (.int .i64 e0.c) h1
      have h3 := heap_setCell_same _ G 2 _ 41 (.string e0.k) h2
      have h4 := heap_setCell_same _ G 3 _ 41 (.bool e0.d) h3
      have h5 := heap_setCell_same _ G 4 _ 41 (.slice e0.v.p e0.v.n e0.v.c) h4
      have h6 := heap_setCell_same _ G 5 _ 41 (.slice e0.x.p e0.x.n e0.x.c) h5
      simpa [zE, E.cs, Sl.v] using h6
    have HS7 : Hid (Apart [G] wd w7) := by unfold Hid; rw [Hw7.out]; exact (((((((Apart.refl _ _).setCell (.inl (by simp)) _).setCell (.inl (by simp)) _).setCell (.inl (by simp)) _).setCell (.inl (by simp)) _).setCell (.inl (by simp)) _).setCell (.inl (by simp)) _)
    have HE7 := hid (keepB HS7.out HEd.out (lt_of_heap HEd.out) (by omega))
    have HF7 := hid (keepB HS7.out HFd.out (lt_of_heap HFd.out) (by omega))
    have HV7 := hid (HVd.out.oth HS7.out HGd.out (by decide) (by have := HG.out; omega))
    obtain ⟨wx, Hwx⟩ : ∃ wx, Hid (wx = w7.setCell ⟨G + 1, 0, none⟩ (.int .i64 (q' : Nat))) := ⟨_, rfl⟩
    have HSx : Hid (Apart [G + 1] w7 wx) := by unfold Hid; rw [Hwx.out]; exact (Apart.refl _ _).setCell (.inl (by simp)) _
    have HEx : Hid (wx.heap[G + 1]? = some (.cells #[.int .i64 (q' : Nat)] 3 (0, 0))) := by
      unfold Hid
      rw [Hwx.out]
      have := heap_setCell_same w7 (G + 1) 0 _ 3 (.int .i64 (q' : Nat)) HE7.out
      simpa using this
    have HGx := hid (keepB HSx.out HG7.out (lt_of_heap HG7.out) (by omega))
    have HFx := hid (keepB HSx.out HF7.out (lt_of_heap HF7.out) (by omega))
    have HVx := hid (HV7.out.oth HSx.out HE7.out (by decide) (by have := HG.out; omega))
    obtain ⟨w8, Hw8⟩ : ∃ w8, Hid (w8 = wx.setCell ⟨G + 1 + 1, 0, none⟩ (.int .i64 0)) := ⟨_, rfl⟩
    have HS8 : Hid (Apart [G + 1 + 1] wx w8) := by unfold Hid; rw [Hw8.out]; exact (Apart.refl _ _).setCell (.inl (by simp)) _
    have HF8 : Hid (w8.heap[G + 1 + 1]? = some (.cells #[.int .i64 0] 30 (0, 0))) := by
      unfold Hid
      rw [Hw8.out]
      have := heap_setCell_same wx (G + 1 + 1) 0 _ 30 (.int .i64 0) HFx.out
      simpa using this
    have HG8 := hid (keepB HS8.out HGx.out (lt_of_heap HGx.out) (by omega))
    have HE8 := hid (keepB HS8.out HEx.out (lt_of_heap HEx.out) (by omega))
    have HV8 := hid (HVx.out.oth HS8.out HFx.out (by decide) (by have := HG.out; omega))
    have HA8 : Hid (Apart [] w w8) := by
      have hg := HG.out
      have b6 := HA5.out.trans' HS6.out (by intro y hy; simp at hy; rw [hy]; exact .inr (by omega))
      have b6d := b6.trans' HSd.out (by intro y hy; simp at hy)
      have b7 := b6d.trans' HS7.out (by intro y hy; simp at hy; rw [hy]; exact .inr (by omega))
      have bx := b7.trans' HSx.out (by intro y hy; simp at hy; rw [hy]; exact .inr (by omega))
      exact bx.trans' HS8.out (by intro y hy; simp at hy; rw [hy]; exact .inr (by omega))
    have HP : Hid (RdP w w8 (.returned (.tuple #[.agg (E.cs e0).toArray, .int .i64 (q' : Nat), .int .i64 0])) (rlone B q) (.agg zE) (VWr w)) := ⟨HA8.out, fun a' q2 h => (by rw [HR.out] at h; cases h; exact ⟨_, rfl, HV8.out⟩), fun y h => (by rw [HR.out] at h; cases h)⟩
    have HRc7 := hid ((HRd.out.other HS7.out HGd.out (by decide) (by have := HG.out; omega)).cells.2.1)
    have HRcx := hid (((HRd.out.other HS7.out HGd.out (by decide) (by have := HG.out; omega)).other HSx.out HE7.out (by decide) (by have := HG.out; omega)).cells.2.1)
    have HRc8 := hid ((((HRd.out.other HS7.out HGd.out (by decide) (by have := HG.out; omega)).other HSx.out HE7.out (by decide) (by have := HG.out; omega)).other HS8.out HFx.out (by decide) (by have := HG.out; omega)).cells.2.1)
    have z0 : wd.cell? ⟨G, 0, none⟩ = some (.int .i64 e0.n) := crow HGd.out 0 _ rfl
    have y0 := frozen_of_row _ _ 0 _ _ HGd.out
    have z1 : wd.cell? ⟨G, 1, none⟩ = some (.int .i64 e0.c) := crow HGd.out 1 _ rfl
    have y1 := frozen_of_row _ _ 1 _ _ HGd.out
    have z2 : wd.cell? ⟨G, 2, none⟩ = some (.string e0.k) := crow HGd.out 2 _ rfl
    have y2 := frozen_of_row _ _ 2 _ _ HGd.out
    have z3 : wd.cell? ⟨G, 3, none⟩ = some (.bool e0.d) := crow HGd.out 3 _ rfl
    have y3 := frozen_of_row _ _ 3 _ _ HGd.out
    have z4 : wd.cell? ⟨G, 4, none⟩ = some (.slice e0.v.p e0.v.n e0.v.c) := crow HGd.out 4 _ rfl
    have y4 := frozen_of_row _ _ 4 _ _ HGd.out
    have z5 : wd.cell? ⟨G, 5, none⟩ = some (.slice e0.x.p e0.x.n e0.x.c) := crow HGd.out 5 _ rfl
    have y5 := frozen_of_row _ _ 5 _ _ HGd.out
    refine wpAnyH_ready (rs := [5]) (by kernel_rfl) (by simp) ?_
    refine AllReadyH.cons rfl (fun KK hKK => ?_) AllReadyH.nil
    go_simp
    rw [← Hw7.out]
    clear z0 z1 z2 z3 z4 z5 y0 y1 y2 y3 y4 y5
    refine hKK.out _ _ ⟨HG7.out, HRc7.out⟩ (fun hHeld => ?_)
    clear hKK KK
    have e0 : w7.cell? ⟨G + 1, 0, none⟩ = some (.int .i64 0) := by rw [cell_of_row _ _ _ _ _ _ HE7.out]; rfl
    have e1 := frozen_of_row _ _ 0 _ _ HE7.out
    refine wpAnyH_ready (rs := [6]) (by kernel_rfl) (by simp) ?_
    refine AllReadyH.cons rfl (fun KK hKK => ?_) AllReadyH.nil
    go_simp
    rw [← Hwx.out]
    clear e0 e1
    refine hKK.out _ _ ⟨HGx.out, HRcx.out⟩ (fun hHeld => ?_)
    clear hKK KK
    have g0 : wx.cell? ⟨G + 1 + 1, 0, none⟩ = some (.int .i64 0) := by rw [cell_of_row _ _ _ _ _ _ HFx.out]; rfl
    have g1 := frozen_of_row _ _ 0 _ _ HFx.out
    refine wpAnyH_ready (rs := [7]) (by kernel_rfl) (by simp) ?_
    refine AllReadyH.cons rfl (fun KK hKK => ?_) AllReadyH.nil
    go_simp
    rw [← Hw8.out]
    clear g0 g1
    refine hKK.out _ _ ⟨HG8.out, HRc8.out⟩ (fun hHeld => ?_)
    clear hKK KK
    refine wpAnyH_done (by kernel_rfl) ?_ _
    refine NoPanic.normal ?_
    go_wp2_with fail
    refine leaves_cons (f := 95) (args := #[.pointer (some ⟨G + 1, 0, none⟩), .pointer (some ⟨G + 1 + 1, 0, none⟩)]) (by simp) (by simp [go_sem]) ?_
    refine (catch95_idle ⟨G + 1, 0, none⟩ ⟨G + 1 + 1, 0, none⟩ w8).mono ?_
    rintro e2 u' w9 ⟨rfl, rfl, hw9⟩
    rw [hw9]
    clear hw9 w9
    have c0 : w8.cell? ⟨G, 0, none⟩ = some (.int .i64 e0.n) := crow HG8.out 0 _ rfl
    have c1 : w8.cell? ⟨G, 1, none⟩ = some (.int .i64 e0.c) := crow HG8.out 1 _ rfl
    have c2 : w8.cell? ⟨G, 2, none⟩ = some (.string e0.k) := crow HG8.out 2 _ rfl
    have c3 : w8.cell? ⟨G, 3, none⟩ = some (.bool e0.d) := crow HG8.out 3 _ rfl
    have c4 : w8.cell? ⟨G, 4, none⟩ = some (.slice e0.v.p e0.v.n e0.v.c) := crow HG8.out 4 _ rfl
    have c5 : w8.cell? ⟨G, 5, none⟩ = some (.slice e0.x.p e0.x.n e0.x.c) := crow HG8.out 5 _ rfl
    have ce : w8.cell? ⟨G + 1, 0, none⟩ = some (.int .i64 (q' : Nat)) := by rw [cell_of_row _ _ _ _ _ _ HE8.out]; rfl
    have cf : w8.cell? ⟨G + 1 + 1, 0, none⟩ = some (.int .i64 0) := by rw [cell_of_row _ _ _ _ _ _ HF8.out]; rfl
    simp [Leaves, settle, results, Try.results56, go_sem, c0, c1, c2, c3, c4, c5, ce, cf]
    exact HP.out
end Go.Proofs.Ytddffdcjhleejaa.ds
namespace Go.Proofs.Ytddffdcjhleejaa.ds
open Go.ChangeShapes Go.WideShapes Go.ChangeAt Go.RowKit Go.Sort
set_option linter.unusedVariables false
set_option linter.unusedSimpArgs false
theorem VSet.oth {wB w w' : World} {a : List S} {v : Value} {X : Nat} {cur : Array Value} {t : Nat} (h : VSet wB a v w) (ap : Apart [X] w w') (hX : w.heap[X]? = some (.cells cur t (0, 0))) (ht : t ≠ 86) (hn : wB.heap.size ≤ X) : VSet wB a v w' := by
  obtain ⟨s, h1, h2, h3⟩ := h
  exact ⟨s, h1, h2.oth ap hX ht hn, h3⟩
set_option maxHeartbeats 8000000 in
set_option maxRecDepth 100000 in
/-- read at a set's reader -/
theorem read_set {w : World} {p : Option Addr} {N c : Nat} {B : List Nat} (h : Dat w p N c B) (q : Nat) (hq : q ≤ N) :
    Calls Try.prog 58 #[.slice p N c, .int .i64 (q : Nat), .func (.func 59) #[] #[]] w fun e w' => RdP w w' e (rset B q) (.slice none 0 0) (VSet w) := by
  have hmf : ∀ (fn : Fn) (first cap : Array Value) (w : World), (Instr.makeFunc fn first cap).run Try.prog w = .ok (.func fn first cap) w := fun _ _ _ _ => rfl
  have HDt := hid h
  have hl := h.lim
  have hq0 : ¬ ((q : Nat) : Int) < 0 := by omega
  have hqN : ¬ ((q : Nat) : Int) > (N : Int) := by omega
  obtain ⟨wb, hwb⟩ : ∃ wb, wb = w.alloc (.cells #[.int .i64 0] 3) := ⟨_, rfl⟩
  obtain ⟨wc, hwc⟩ : ∃ wc, wc = wb.alloc (.cells #[.int .i64 0] 30) := ⟨_, rfl⟩
  obtain ⟨w4, hw4⟩ : ∃ w4, w4 = wc.alloc (.cells #[.slice p N c, .int .i64 (q : Nat)] 124) := ⟨_, rfl⟩
  obtain ⟨G, HG⟩ : ∃ G, Hid (G = w.heap.size) := ⟨_, rfl⟩
  have sb : wb.heap.size = G + 1 := by rw [hwb, HG.out]; simp
  have sc : wc.heap.size = G + 1 + 1 := by rw [hwc]; simp [sb]
  have ab : Apart [] w wb := by rw [hwb]; exact (Apart.refl [] w).alloc _
  have ac : Apart [] wb wc := by rw [hwc]; exact (Apart.refl [] wb).alloc _
  have ad : Apart [] wc w4 := by rw [hw4]; exact (Apart.refl [] wc).alloc _
  have g2 : wb.heap[G]? = some (.cells #[.int .i64 0] 3 (0, 0)) := by rw [HG.out, hwb]; exact heap_alloc_new w _
  have g3 : wc.heap[G + 1]? = some (.cells #[.int .i64 0] 30 (0, 0)) := by rw [← sb, hwc]; exact heap_alloc_new wb _
  have g4 : w4.heap[G + 1 + 1]? = some (.cells #[.slice p N c, .int .i64 (q : Nat)] 124 (0, 0)) := by rw [← sc, hw4]; exact heap_alloc_new wc _
  have HE4 : Hid (w4.heap[G]? = some (.cells #[.int .i64 0] 3 (0, 0))) := ((ac.trans ad).block _ (lt_of_heap g2) (by simp)).trans g2
  have HF4 : Hid (w4.heap[G + 1]? = some (.cells #[.int .i64 0] 30 (0, 0))) := (ad.block _ (lt_of_heap g3) (by simp)).trans g3
  have HA4 : Hid (Apart [] w w4) := ab.trans (ac.trans ad)
  have HRB := hid (HDt.out.reader HA4.out g4 (by have := HG.out; omega) hq)
  clear h ab ac ad g2 g3 g4 sb sc
  rw [hwc, hwb] at hw4
  clear hwb hwc
  go_enter_defers Try.func58, Try.ntmps58
  go_wp2_with fail
  rw [← hw4, ← HG.out]
  clear hw4
  refine (set_ok HRB.out).mono ?_
  rintro e w5 ⟨ha, hm⟩
  have HS5 := hid ha
  have HE5 := hid (keepB ha HE4.out (lt_of_heap HE4.out) (by omega))
  have HF5 := hid (keepB ha HF4.out (lt_of_heap HF4.out) (by omega))
  have HA5 : Hid (Apart [] w w5) := HA4.out.trans' ha (by intro y hy; simp at hy; rw [hy]; have := HG.out; exact .inr (by omega))
  clear ha
  cases hr : rset B q with
  | error x =>
    rw [hr] at hm
    have he : e = wrongAt x := hm
    subst he
    unfold wrongAt
    have HR := hid hr
    clear hr hm
    try dsimp only
    refine leaves_cons (f := 97) (args := #[.pointer (some ⟨G, 0, none⟩), .pointer (some ⟨G + 1, 0, none⟩)]) (by simp) (by simp [go_sem]) ?_
    refine (catch97_panicking ⟨G, 0, none⟩ ⟨G + 1, 0, none⟩ x (.int .i64 0) (.int .i64 0) w5 (by rw [cell_of_row _ _ _ _ _ _ HE5.out]; rfl) (frozen_of_row _ _ 0 _ _ HE5.out) (by rw [cell_of_row _ _ _ _ _ _ HF5.out]; rfl) (frozen_of_row _ _ 0 _ _ HF5.out) (by simp)).mono ?_
    rintro e2 u' w6 ⟨rfl, rfl, hw6⟩
    have HS6 : Hid (Apart [G, G + 1] w5 w6) := by unfold Hid; rw [hw6]; exact ((Apart.refl _ _).setCell (.inl (by simp)) _).setCell (.inl (by simp)) _
    have HE6 : Hid (w6.heap[G]? = some (.cells #[.int .i64 (x : Nat)] 3 (0, 0))) := by
      unfold Hid
      rw [hw6]
      have h1 := heap_setCell_same w5 G 0 _ 3 (.int .i64 (x : Nat)) HE5.out
      have a2 : Apart [G + 1] (w5.setCell ⟨G, 0, none⟩ (.int .i64 (x : Nat))) ((w5.setCell ⟨G, 0, none⟩ (.int .i64 (x : Nat))).setCell ⟨G + 1, 0, none⟩ (.int .i64 60)) := (Apart.refl _ _).setCell (.inl (by simp)) _
      have := (a2.block _ (lt_of_heap h1) (by simp)).trans h1
      simpa using this
    have HF6 : Hid (w6.heap[G + 1]? = some (.cells #[.int .i64 60] 30 (0, 0))) := by
      unfold Hid
      rw [hw6]
      have a1 : Apart [G] w5 (w5.setCell ⟨G, 0, none⟩ (.int .i64 (x : Nat))) := (Apart.refl _ _).setCell (.inl (by simp)) _
      have h0 := (a1.block _ (lt_of_heap HF5.out) (by simp)).trans HF5.out
      have h1 := heap_setCell_same _ (G + 1) 0 _ 30 (.int .i64 60) h0
      simpa using h1
    have HA6 : Hid (Apart [] w w6) := HA5.out.trans' HS6.out (by intro y hy; simp at hy; have := HG.out; rcases hy with hy | hy <;> (rw [hy]; exact .inr (by omega)))
    clear hw6
    have ce : w6.cell? ⟨G, 0, none⟩ = some (.int .i64 (x : Nat)) := by rw [cell_of_row _ _ _ _ _ _ HE6.out]; rfl
    have cf : w6.cell? ⟨G + 1, 0, none⟩ = some (.int .i64 60) := by rw [cell_of_row _ _ _ _ _ _ HF6.out]; rfl
    have HP : Hid (RdP w w6 (.returned (.tuple #[.slice none 0 0, .int .i64 (x : Nat), .int .i64 60])) (rset B q) (.slice none 0 0) (VSet w)) := ⟨HA6.out, fun a q' h => (by rw [HR.out] at h; cases h), fun y h => (by rw [HR.out] at h; cases h; rfl)⟩
    simp [Leaves, settle, results, Try.results58, go_sem, ce, cf]
    exact HP.out
  | ok t =>
    obtain ⟨a, q'⟩ := t
    rw [hr] at hm
    obtain ⟨⟨v, hev, hv⟩, hrb⟩ := hm
    subst hev
    have HR := hid hr
    have HRb := hid hrb
    have HV5 := hid hv
    obtain ⟨s, hvm, -⟩ := hv
    clear hr hrb
    subst hvm
    try dsimp only
    go_wp2_with fail
    refine wp_region_noPanic ?_
    refine wp_region_held_drew (S := fun W => W.cell? ⟨G + 1 + 1, 1, none⟩ = some (.int .i64 (q' : Nat))) (by kernel_rfl) ((HRb.out.kept (Apart.refl [] w5).drew).cells).2.1 (fun hHeld => ?_)
    have HSd : Hid (Apart [] w5 w5.drew) := (Apart.refl [] w5).drew
    generalize w5.drew = wd at *
    have HEd := hid ((HSd.out.block _ (lt_of_heap HE5.out) (by simp)).trans HE5.out)
    have HFd := hid ((HSd.out.block _ (lt_of_heap HF5.out) (by simp)).trans HF5.out)
    have HRd := hid (HRb.out.kept HSd.out)
    have HVd := hid (HV5.out.oth (X := G) (HSd.out.mono (by simp)) HE5.out (by decide) (by have := HG.out; omega))
    have hS0 : wd.cell? ⟨G + 1 + 1, 1, none⟩ = some (.int .i64 (q' : Nat)) := HRd.out.cells.2.1
    refine tk 0 27 (.slice s.p s.n s.c) rfl ?_ ?_
    · intro W hSW; go_simp
    simp only [Act.put, List.setIfInBounds_toArray, List.set_cons_zero, List.set_cons_succ]
    refine tk 1 28 (.pointer (some ⟨G + 1 + 1, 0, none⟩)) rfl ?_ ?_
    · intro W hSW; go_simp
    simp only [Act.put, List.setIfInBounds_toArray, List.set_cons_zero, List.set_cons_succ]
    refine tk 2 29 (.pointer (some ⟨G + 1 + 1, 0, none⟩)) rfl ?_ ?_
    · intro W hSW; go_simp
    simp only [Act.put, List.setIfInBounds_toArray, List.set_cons_zero, List.set_cons_succ]
    refine tk 3 30 (.pointer (some ⟨G + 1 + 1, 1, none⟩)) rfl ?_ ?_
    · intro W hSW; go_simp
    simp only [Act.put, List.setIfInBounds_toArray, List.set_cons_zero, List.set_cons_succ]
    refine tk 4 31 (.int .i64 (q' : Nat)) rfl ?_ ?_
    · intro W hSW; have z1 : W.cell? ⟨G + 1 + 1, 1, none⟩ = some (.int .i64 (q' : Nat)) := hSW; go_simp
    simp only [Act.put, List.setIfInBounds_toArray, List.set_cons_zero, List.set_cons_succ]
    refine tk 5 6 (.slice s.p s.n s.c) rfl ?_ ?_
    · intro W hSW; go_simp
    simp only [Act.put, List.setIfInBounds_toArray, List.set_cons_zero, List.set_cons_succ]
    obtain ⟨wx, Hwx⟩ : ∃ wx, Hid (wx = wd.setCell ⟨G, 0, none⟩ (.int .i64 (q' : Nat))) := ⟨_, rfl⟩
    have HSx : Hid (Apart [G] wd wx) := by unfold Hid; rw [Hwx.out]; exact (Apart.refl _ _).setCell (.inl (by simp)) _
    have HEx : Hid (wx.heap[G]? = some (.cells #[.int .i64 (q' : Nat)] 3 (0, 0))) := by
      unfold Hid
      rw [Hwx.out]
      have := heap_setCell_same wd G 0 _ 3 (.int .i64 (q' : Nat)) HEd.out
      simpa using this
    have HFx := hid (keepB HSx.out HFd.out (lt_of_heap HFd.out) (by omega))
    have HVx := hid (HVd.out.oth HSx.out HEd.out (by decide) (by have := HG.out; omega))
    obtain ⟨w8, Hw8⟩ : ∃ w8, Hid (w8 = wx.setCell ⟨G + 1, 0, none⟩ (.int .i64 0)) := ⟨_, rfl⟩
    have HS8 : Hid (Apart [G + 1] wx w8) := by unfold Hid; rw [Hw8.out]; exact (Apart.refl _ _).setCell (.inl (by simp)) _
    have HF8 : Hid (w8.heap[G + 1]? = some (.cells #[.int .i64 0] 30 (0, 0))) := by
      unfold Hid
      rw [Hw8.out]
      have := heap_setCell_same wx (G + 1) 0 _ 30 (.int .i64 0) HFx.out
      simpa using this
    have HE8 := hid (keepB HS8.out HEx.out (lt_of_heap HEx.out) (by omega))
    have HV8 := hid (HVx.out.oth HS8.out HFx.out (by decide) (by have := HG.out; omega))
    have HA8 : Hid (Apart [] w w8) := by
      have hg := HG.out
      have b6d := HA5.out.trans' HSd.out (by intro y hy; simp at hy)
      have bx := b6d.trans' HSx.out (by intro y hy; simp at hy; rw [hy]; exact .inr (by omega))
      exact bx.trans' HS8.out (by intro y hy; simp at hy; rw [hy]; exact .inr (by omega))
    have HP : Hid (RdP w w8 (.returned (.tuple #[.slice s.p s.n s.c, .int .i64 (q' : Nat), .int .i64 0])) (rset B q) (.slice none 0 0) (VSet w)) := ⟨HA8.out, fun a' q2 h => (by rw [HR.out] at h; cases h; exact ⟨_, rfl, HV8.out⟩), fun y h => (by rw [HR.out] at h; cases h)⟩
    have HRcx := hid ((HRd.out.other HSx.out HEd.out (by decide) (by have := HG.out; omega)).cells.2.1)
    have HRc8 := hid (((HRd.out.other HSx.out HEd.out (by decide) (by have := HG.out; omega)).other HS8.out HFx.out (by decide) (by have := HG.out; omega)).cells.2.1)
    have e0 : wd.cell? ⟨G, 0, none⟩ = some (.int .i64 0) := by rw [cell_of_row _ _ _ _ _ _ HEd.out]; rfl
    have e1 := frozen_of_row _ _ 0 _ _ HEd.out
    refine wpAnyH_ready (rs := [6]) (by kernel_rfl) (by simp) ?_
    refine AllReadyH.cons rfl (fun KK hKK => ?_) AllReadyH.nil
    go_simp
    rw [← Hwx.out]
    clear e0 e1
    refine hKK.out _ _ HRcx.out (fun hHeld => ?_)
    clear hKK KK
    have g0 : wx.cell? ⟨G + 1, 0, none⟩ = some (.int .i64 0) := by rw [cell_of_row _ _ _ _ _ _ HFx.out]; rfl
    have g1 := frozen_of_row _ _ 0 _ _ HFx.out
    refine wpAnyH_ready (rs := [7]) (by kernel_rfl) (by simp) ?_
    refine AllReadyH.cons rfl (fun KK hKK => ?_) AllReadyH.nil
    go_simp
    rw [← Hw8.out]
    clear g0 g1
    refine hKK.out _ _ HRc8.out (fun hHeld => ?_)
    clear hKK KK
    refine wpAnyH_done (by kernel_rfl) ?_ _
    refine NoPanic.normal ?_
    go_wp2_with fail
    refine leaves_cons (f := 97) (args := #[.pointer (some ⟨G, 0, none⟩), .pointer (some ⟨G + 1, 0, none⟩)]) (by simp) (by simp [go_sem]) ?_
    refine (catch97_idle ⟨G, 0, none⟩ ⟨G + 1, 0, none⟩ w8).mono ?_
    rintro e2 u' w9 ⟨rfl, rfl, hw9⟩
    rw [hw9]
    clear hw9 w9
    have ce : w8.cell? ⟨G, 0, none⟩ = some (.int .i64 (q' : Nat)) := by rw [cell_of_row _ _ _ _ _ _ HE8.out]; rfl
    have cf : w8.cell? ⟨G + 1, 0, none⟩ = some (.int .i64 0) := by rw [cell_of_row _ _ _ _ _ _ HF8.out]; rfl
    simp [Leaves, settle, results, Try.results58, go_sem, ce, cf]
    exact HP.out
end Go.Proofs.Ytddffdcjhleejaa.ds
namespace Go.Proofs.Ytddffdcjhleejaa.ds
open Go.ChangeShapes Go.WideShapes Go.ChangeAt Go.RowKit Go.Sort
set_option linter.unusedVariables false
set_option linter.unusedSimpArgs false
set_option maxHeartbeats 8000000 in
set_option maxRecDepth 100000 in
/-- GetSet -/
theorem getSet_ok {w : World} {p : Option Addr} {N c : Nat} {B : List Nat} (h : Dat w p N c B) (q : Nat) (hq : q ≤ N) :
    Calls Try.prog 26 #[.slice p N c, .int .i64 (q : Nat)] w fun e w' => RdP w w' e (rset B q) (.slice none 0 0) (VSet w) := by
  have HC := hid (read_set h q hq)
  clear h hq
  go_enter Try.func26, Try.ntmps26
  go_wp2_with fail
  refine HC.out.mono ?_
  rintro e w1 hP
  have HP := hid hP
  cases hr : rset B q with
  | error x =>
    have he := HP.out.no x hr
    subst he
    have HR := hid hr
    clear hr hP
    try dsimp only
    go_wp2_with fail
    go_ret3
    exact HP.out
  | ok t =>
    obtain ⟨a, q'⟩ := t
    obtain ⟨v, he, hv⟩ := HP.out.ok a q' hr
    subst he
    have HR := hid hr
    obtain ⟨s, hs, -⟩ := hv
    subst hs
    clear hr hP
    try dsimp only
    go_wp2_with fail
    go_ret3
    exact HP.out
end Go.Proofs.Ytddffdcjhleejaa.ds
