import Derived.Test.YtddffdcjhleejaaGreatG25
import Derived.Test.YtddffdcjhleejaaGreatG24
namespace Go.Proofs.YtddffdcjhleejaaGreat.ds
open Go.ChangeShapes Go.WideShapes Go.ChangeAt Go.RowKit Go.Sort
set_option linter.unusedVariables false
set_option linter.unusedSimpArgs false
def zE : Array Value := #[.int .i64 0, .int .i64 0, .string ⟨#[]⟩, .bool false, .slice none 0 0, .slice none 0 0]
theorem crow {w : World} {M t : Nat} {cs : Array Value} (h : w.heap[M]? = some (.cells cs t (0, 0))) (i : Nat) (v : Value) (hv : cs[i]? = some v) : w.cell? ⟨M, i, none⟩ = some v := by
  rw [cell_of_row _ _ _ _ _ _ h]; exact hv
theorem VWr.oth {wB w w' : World} {a : Wr} {v : Value} {X : Nat} {cur : Array Value} {t : Nat} (h : VWr wB a v w) (ap : Apart [X] w w') (hX : w.heap[X]? = some (.cells cur t (0, 0))) (ht : t ≠ 5 ∧ t ≠ 48) (hn : wB.heap.size ≤ X) : VWr wB a v w' := by
  obtain ⟨e, h1, h2⟩ := h
  exact ⟨e, h1, h2.oth ap hX ht hn⟩
set_option maxHeartbeats 8000000 in
set_option maxRecDepth 100000 in
theorem read_wr {w : World} {p : Option Addr} {N c : Nat} {B : List Nat} (h : Dat w p N c B) (q : Nat) (hq : q ≤ N) :
    Calls Tryz.prog 57 #[.slice p N c, .int .i64 (q : Nat), .func (.func 58) #[] #[]] w fun e w' => RdP w w' e (rlone B q) (.agg zE) (VWr w) := by
  have hmf : ∀ (fn : Fn) (first cap : Array Value) (w : World), (Instr.makeFunc fn first cap).run Tryz.prog w = .ok (.func fn first cap) w := fun _ _ _ _ => rfl
  have HDt := hid h
  have hl := h.lim
  have hq0 : ¬ ((q : Nat) : Int) < 0 := by omega
  have hqN : ¬ ((q : Nat) : Int) > (N : Int) := by omega
  obtain ⟨wa, hwa⟩ : ∃ wa, wa = w.alloc (.cells #[Value.int IntKind.i64 0, Value.int IntKind.i64 0, Value.string { data := #[] }, Value.bool false, Value.slice none 0 0, Value.slice none 0 0] 37) := ⟨_, rfl⟩
  obtain ⟨wb, hwb⟩ : ∃ wb, wb = wa.alloc (.cells #[.int .i64 0] 3) := ⟨_, rfl⟩
  obtain ⟨wc, hwc⟩ : ∃ wc, wc = wb.alloc (.cells #[.int .i64 0] 40) := ⟨_, rfl⟩
  obtain ⟨w4, hw4⟩ : ∃ w4, w4 = wc.alloc (.cells #[.slice p N c, .int .i64 (q : Nat)] 115) := ⟨_, rfl⟩
  obtain ⟨G, HG⟩ : ∃ G, Hid (G = w.heap.size) := ⟨_, rfl⟩
  have sa : wa.heap.size = G + 1 := by rw [hwa, HG.out]; simp
  have sb : wb.heap.size = G + 1 + 1 := by rw [hwb]; simp [sa]
  have sc : wc.heap.size = G + 1 + 1 + 1 := by rw [hwc]; simp [sb]
  have aa : Apart [] w wa := by rw [hwa]; exact (Apart.refl [] w).alloc _
  have ab : Apart [] wa wb := by rw [hwb]; exact (Apart.refl [] wa).alloc _
  have ac : Apart [] wb wc := by rw [hwc]; exact (Apart.refl [] wb).alloc _
  have ad : Apart [] wc w4 := by rw [hw4]; exact (Apart.refl [] wc).alloc _
  have g1 : wa.heap[G]? = some (.cells zE 37 (0, 0)) := by rw [HG.out, hwa]; exact heap_alloc_new w _
  have g2 : wb.heap[G + 1]? = some (.cells #[.int .i64 0] 3 (0, 0)) := by rw [← sa, hwb]; exact heap_alloc_new wa _
  have g3 : wc.heap[G + 1 + 1]? = some (.cells #[.int .i64 0] 40 (0, 0)) := by rw [← sb, hwc]; exact heap_alloc_new wb _
  have g4 : w4.heap[G + 1 + 1 + 1]? = some (.cells #[.slice p N c, .int .i64 (q : Nat)] 115 (0, 0)) := by rw [← sc, hw4]; exact heap_alloc_new wc _
  have HG4 : Hid (w4.heap[G]? = some (.cells zE 37 (0, 0))) := ((ab.trans (ac.trans ad)).block _ (lt_of_heap g1) (by simp)).trans g1
  have HE4 : Hid (w4.heap[G + 1]? = some (.cells #[.int .i64 0] 3 (0, 0))) := ((ac.trans ad).block _ (lt_of_heap g2) (by simp)).trans g2
  have HF4 : Hid (w4.heap[G + 1 + 1]? = some (.cells #[.int .i64 0] 40 (0, 0))) := (ad.block _ (lt_of_heap g3) (by simp)).trans g3
  have HA4 : Hid (Apart [] w w4) := aa.trans (ab.trans (ac.trans ad))
  have HRB := hid (HDt.out.reader HA4.out g4 (by have := HG.out; omega) hq)
  clear h aa ab ac ad g1 g2 g3 g4 sa sb sc
  rw [hwc, hwb, hwa] at hw4
  clear hwa hwb hwc
  go_enter_defers Tryz.func57, Tryz.ntmps57
  go_wp2_with fail
  rw [← hw4, ← HG.out]
  clear hw4
  refine (lone_ok HRB.out).mono ?_
  rintro e w5 ⟨ha, hm⟩
  have HS5 := hid ha
  have HG5 := hid (keepB ha HG4.out (lt_of_heap HG4.out) (by omega))
  have HE5 := hid (keepB ha HE4.out (lt_of_heap HE4.out) (by omega))
  have HF5 := hid (keepB ha HF4.out (lt_of_heap HF4.out) (by omega))
  have HA5 : Hid (Apart [] w w5) := HA4.out.trans' ha (by intro y hy; simp at hy; rw [hy]; have := HG.out; exact .inr (by omega))
  clear ha
  cases hr : rlone B q with
  | error x =>
    rw [hr] at hm
    have he : e = wrongAt x := hm
    subst he
    unfold wrongAt
    have HR := hid hr
    clear hr hm
    try dsimp only
    refine leaves_cons (f := 93) (args := #[.pointer (some ⟨G + 1, 0, none⟩), .pointer (some ⟨G + 1 + 1, 0, none⟩)]) (by simp) (by simp [go_sem]) ?_
    refine (catch95_panicking ⟨G + 1, 0, none⟩ ⟨G + 1 + 1, 0, none⟩ x (.int .i64 0) (.int .i64 0) w5 (by rw [cell_of_row _ _ _ _ _ _ HE5.out]; rfl) (frozen_of_row _ _ 0 _ _ HE5.out) (by rw [cell_of_row _ _ _ _ _ _ HF5.out]; rfl) (frozen_of_row _ _ 0 _ _ HF5.out) (by simp)).mono ?_
    rintro e2 u' w6 ⟨rfl, rfl, hw6⟩
    have HS6 : Hid (Apart [G + 1, G + 1 + 1] w5 w6) := by unfold Hid; rw [hw6]; exact ((Apart.refl _ _).setCell (.inl (by simp)) _).setCell (.inl (by simp)) _
    have HE6 : Hid (w6.heap[G + 1]? = some (.cells #[.int .i64 (x : Nat)] 3 (0, 0))) := by
      unfold Hid
      rw [hw6]
      have h1 := heap_setCell_same w5 (G + 1) 0 _ 3 (.int .i64 (x : Nat)) HE5.out
      have a2 : Apart [G + 1 + 1] (w5.setCell ⟨G + 1, 0, none⟩ (.int .i64 (x : Nat))) ((w5.setCell ⟨G + 1, 0, none⟩ (.int .i64 (x : Nat))).setCell ⟨G + 1 + 1, 0, none⟩ (.int .i64 60)) := (Apart.refl _ _).setCell (.inl (by simp)) _
      have := (a2.block _ (lt_of_heap h1) (by simp)).trans h1
      simpa using this
    have HF6 : Hid (w6.heap[G + 1 + 1]? = some (.cells #[.int .i64 60] 40 (0, 0))) := by
      unfold Hid
      rw [hw6]
      have a1 : Apart [G + 1] w5 (w5.setCell ⟨G + 1, 0, none⟩ (.int .i64 (x : Nat))) := (Apart.refl _ _).setCell (.inl (by simp)) _
      have h0 := (a1.block _ (lt_of_heap HF5.out) (by simp)).trans HF5.out
      have h1 := heap_setCell_same _ (G + 1 + 1) 0 _ 40 (.int .i64 60) h0
      simpa using h1
    have HG6 : Hid (w6.heap[G]? = some (.cells zE 37 (0, 0))) := (HS6.out.block _ (lt_of_heap HG5.out) (by simp; omega)).trans HG5.out
    have HA6 : Hid (Apart [] w w6) := HA5.out.trans' HS6.out (by intro y hy; simp at hy; have := HG.out; rcases hy with hy | hy <;> (rw [hy]; exact .inr (by omega)))
    clear hw6
    have c0 : w6.cell? ⟨G, 0, none⟩ = _ := crow HG6.out 0 _ rfl
    have c1 : w6.cell? ⟨G, 1, none⟩ = _ := crow HG6.out 1 _ rfl
    have c2 : w6.cell? ⟨G, 2, none⟩ = _ := crow HG6.out 2 _ rfl
    have c3 : w6.cell? ⟨G, 3, none⟩ = _ := crow HG6.out 3 _ rfl
    have c4 : w6.cell? ⟨G, 4, none⟩ = _ := crow HG6.out 4 _ rfl
    have c5 : w6.cell? ⟨G, 5, none⟩ = _ := crow HG6.out 5 _ rfl
    have ce : w6.cell? ⟨G + 1, 0, none⟩ = some (.int .i64 (x : Nat)) := by rw [cell_of_row _ _ _ _ _ _ HE6.out]; rfl
    have cf : w6.cell? ⟨G + 1 + 1, 0, none⟩ = some (.int .i64 60) := by rw [cell_of_row _ _ _ _ _ _ HF6.out]; rfl
    have HP : Hid (RdP w w6 (.returned (.tuple #[.agg zE, .int .i64 (x : Nat), .int .i64 60])) (rlone B q) (.agg zE) (VWr w)) := ⟨HA6.out, fun a q' h => (by rw [HR.out] at h; cases h), fun y h => (by rw [HR.out] at h; cases h; rfl)⟩
    simp [Leaves, settle, results, Tryz.results57, go_sem, c0, c1, c2, c3, c4, c5, ce, cf]
    exact HP.out
  | ok t =>
    obtain ⟨a, q'⟩ := t
    rw [hr] at hm
    obtain ⟨⟨v, hev, hv⟩, hrb⟩ := hm
    subst hev
    have HR := hid hr
    have HRb := hid hrb
    have HV5 := hid hv
    obtain ⟨e0, hvm, -⟩ := hv
    clear hr hrb
    subst hvm
    unfold aggE
    try dsimp only
    have z0 : w5.cell? ⟨G, 0, none⟩ = _ := crow HG5.out 0 _ rfl
    have y0 := frozen_of_row _ _ 0 _ _ HG5.out
    have z1 : w5.cell? ⟨G, 1, none⟩ = _ := crow HG5.out 1 _ rfl
    have y1 := frozen_of_row _ _ 1 _ _ HG5.out
    have z2 : w5.cell? ⟨G, 2, none⟩ = _ := crow HG5.out 2 _ rfl
    have y2 := frozen_of_row _ _ 2 _ _ HG5.out
    have z3 : w5.cell? ⟨G, 3, none⟩ = _ := crow HG5.out 3 _ rfl
    have y3 := frozen_of_row _ _ 3 _ _ HG5.out
    have z4 : w5.cell? ⟨G, 4, none⟩ = _ := crow HG5.out 4 _ rfl
    have y4 := frozen_of_row _ _ 4 _ _ HG5.out
    have z5 : w5.cell? ⟨G, 5, none⟩ = _ := crow HG5.out 5 _ rfl
    have y5 := frozen_of_row _ _ 5 _ _ HG5.out
    obtain ⟨w6, Hw6⟩ : ∃ w6, Hid (w6 = ((((((w5.setCell ⟨G, 0, none⟩ (.int .i64 e0.n)).setCell ⟨G, 1, none⟩ (.int .i64 e0.c)).setCell ⟨G, 2, none⟩ (.string e0.k)).setCell ⟨G, 3, none⟩ (.bool e0.d)).setCell ⟨G, 4, none⟩ (.slice e0.v.p e0.v.n e0.v.c)).setCell ⟨G, 5, none⟩ (.slice e0.x.p e0.x.n e0.x.c))) := ⟨_, rfl⟩
    have HG6 : Hid (w6.heap[G]? = some (.cells (E.cs e0).toArray 37 (0, 0))) := by
      unfold Hid
      rw [Hw6.out]
      have h1 := heap_setCell_same w5 G 0 _ 37 (.int .i64 e0.n) HG5.out
      have h2 := heap_setCell_same _ G 1 _ 37 (.int .i64 e0.c) h1
      have h3 := heap_setCell_same _ G 2 _ 37 (.string e0.k) h2
      have h4 := heap_setCell_same _ G 3 _ 37 (.bool e0.d) h3
      have h5 := heap_setCell_same _ G 4 _ 37 (.slice e0.v.p e0.v.n e0.v.c) h4
      have h6 := heap_setCell_same _ G 5 _ 37 (.slice e0.x.p e0.x.n e0.x.c) h5
      simpa [zE, E.cs, Sl.v] using h6
    have HS6 : Hid (Apart [G] w5 w6) := by unfold Hid; rw [Hw6.out]; exact (((((((Apart.refl _ _).setCell (.inl (by simp)) _).setCell (.inl (by simp)) _).setCell (.inl (by simp)) _).setCell (.inl (by simp)) _).setCell (.inl (by simp)) _).setCell (.inl (by simp)) _)
    have HE6 := hid (keepB HS6.out HE5.out (lt_of_heap HE5.out) (by omega))
    have HF6 := hid (keepB HS6.out HF5.out (lt_of_heap HF5.out) (by omega))
    have HR6 := hid (HRb.out.other HS6.out HG5.out (by decide) (by have := HG.out; omega))
    have HV6 := hid (HV5.out.oth HS6.out HG5.out (by decide) (by have := HG.out; omega))
    go_wp2_with fail
    rw [← Hw6.out]
    clear z0 z1 z2 z3 z4 z5 y0 y1 y2 y3 y4 y5
    obtain ⟨r0, r1, r2⟩ := HR6.out.cells
    refine wp_region_noPanic ?_
    refine wp_region_held_drew (S := fun W => W.heap[G]? = some (.cells (E.cs e0).toArray 37 (0, 0)) ∧ W.cell? ⟨G + 1 + 1 + 1, 1, none⟩ = some (.int .i64 (q' : Nat))) (by kernel_rfl) ⟨((Apart.refl [] w6).drew.block _ (lt_of_heap HG6.out) (by simp)).trans HG6.out, ((HR6.out.kept (Apart.refl [] w6).drew).cells).2.1⟩ (fun hHeld => ?_)
    clear r0 r1 r2
    have HSd : Hid (Apart [] w6 w6.drew) := (Apart.refl [] w6).drew
    generalize w6.drew = wd at *
    have HGd : Hid (wd.heap[G]? = some (.cells (E.cs e0).toArray 37 (0, 0))) := (HSd.out.block _ (lt_of_heap HG6.out) (by simp)).trans HG6.out
    have HEd := hid ((HSd.out.block _ (lt_of_heap HE6.out) (by simp)).trans HE6.out)
    have HFd := hid ((HSd.out.block _ (lt_of_heap HF6.out) (by simp)).trans HF6.out)
    have HRd := hid (HR6.out.kept HSd.out)
    have HVd := hid (HV6.out.oth (X := G) (HSd.out.mono (by simp)) HG6.out (by decide) (by have := HG.out; omega))
    have hS0 : wd.heap[G]? = some (.cells (E.cs e0).toArray 37 (0, 0)) ∧ wd.cell? ⟨G + 1 + 1 + 1, 1, none⟩ = some (.int .i64 (q' : Nat)) := ⟨HGd.out, HRd.out.cells.2.1⟩
    refine tkn 0 27 (.agg #[.int .i64 e0.n, .int .i64 e0.c, .string e0.k, .bool e0.d, .slice e0.v.p e0.v.n e0.v.c, .slice e0.x.p e0.x.n e0.x.c]) rfl ?_ ?_
    · intro W hSW
      obtain ⟨hSW, _⟩ := hSW
      have z0 : W.cell? ⟨G, 0, none⟩ = some (.int .i64 e0.n) := crow hSW 0 _ rfl
      have z1 : W.cell? ⟨G, 1, none⟩ = some (.int .i64 e0.c) := crow hSW 1 _ rfl
      have z2 : W.cell? ⟨G, 2, none⟩ = some (.string e0.k) := crow hSW 2 _ rfl
      have z3 : W.cell? ⟨G, 3, none⟩ = some (.bool e0.d) := crow hSW 3 _ rfl
      have z4 : W.cell? ⟨G, 4, none⟩ = some (.slice e0.v.p e0.v.n e0.v.c) := crow hSW 4 _ rfl
      have z5 : W.cell? ⟨G, 5, none⟩ = some (.slice e0.x.p e0.x.n e0.x.c) := crow hSW 5 _ rfl
      clear hSW
      go_simp
    try simp only [Act.put, List.setIfInBounds_toArray, List.set_cons_zero, List.set_cons_succ]
    refine tkn 1 28 (.pointer (some ⟨G + 1 + 1 + 1, 0, none⟩)) rfl ?_ ?_
    · intro W hSW; go_simp
    refine tkn 2 29 (.pointer (some ⟨G + 1 + 1 + 1, 0, none⟩)) rfl ?_ ?_
    · intro W hSW; go_simp
    refine tkn 3 30 (.pointer (some ⟨G + 1 + 1 + 1, 1, none⟩)) rfl ?_ ?_
    · intro W hSW; go_simp
    refine tkn 4 31 (.int .i64 (q' : Nat)) rfl ?_ ?_
    · intro W hSW; have z1 := hSW.2; go_simp
    obtain ⟨w7, Hw7⟩ : ∃ w7, Hid (w7 = ((((((wd.setCell ⟨G, 0, none⟩ (.int .i64 e0.n)).setCell ⟨G, 1, none⟩ (.int .i64 e0.c)).setCell ⟨G, 2, none⟩ (.string e0.k)).setCell ⟨G, 3, none⟩ (.bool e0.d)).setCell ⟨G, 4, none⟩ (.slice e0.v.p e0.v.n e0.v.c)).setCell ⟨G, 5, none⟩ (.slice e0.x.p e0.x.n e0.x.c))) := ⟨_, rfl⟩
    have HG7 : Hid (w7.heap[G]? = some (.cells (E.cs e0).toArray 37 (0, 0))) := by
      unfold Hid
      rw [Hw7.out]
      have h1 := heap_setCell_same wd G 0 _ 37 (.int .i64 e0.n) HGd.out
      have h2 := heap_setCell_same _ G 1 _ 37 (.int .i64 e0.c) h1
      have h3 := heap_setCell_same _ G 2 _ 37 (.string e0.k) h2
      have h4 := heap_setCell_same _ G 3 _ 37 (.bool e0.d) h3
      have h5 := heap_setCell_same _ G 4 _ 37 (.slice e0.v.p e0.v.n e0.v.c) h4
      have h6 := heap_setCell_same _ G 5 _ 37 (.slice e0.x.p e0.x.n e0.x.c) h5
      simpa [zE, E.cs, Sl.v] using h6
    have HS7 : Hid (Apart [G] wd w7) := by unfold Hid; rw [Hw7.out]; exact (((((((Apart.refl _ _).setCell (.inl (by simp)) _).setCell (.inl (by simp)) _).setCell (.inl (by simp)) _).setCell (.inl (by simp)) _).setCell (.inl (by simp)) _).setCell (.inl (by simp)) _)
    have HE7 := hid (keepB HS7.out HEd.out (lt_of_heap HEd.out) (by omega))
    have HF7 := hid (keepB HS7.out HFd.out (lt_of_heap HFd.out) (by omega))
    have HV7 := hid (HVd.out.oth HS7.out HGd.out (by decide) (by have := HG.out; omega))
    obtain ⟨wx, Hwx⟩ : ∃ wx, Hid (wx = w7.setCell ⟨G + 1, 0, none⟩ (.int .i64 (q' : Nat))) := ⟨_, rfl⟩
    have HSx : Hid (Apart [G + 1] w7 wx) := by unfold Hid; rw [Hwx.out]; exact (Apart.refl _ _).setCell (.inl (by simp)) _
    have HEx : Hid (wx.heap[G + 1]? = some (.cells #[.int .i64 (q' : Nat)] 3 (0, 0))) := by
      unfold Hid
      rw [Hwx.out]
      have := heap_setCell_same w7 (G + 1) 0 _ 3 (.int .i64 (q' : Nat)) HE7.out
      simpa using this
    have HGx := hid (keepB HSx.out HG7.out (lt_of_heap HG7.out) (by omega))
    have HFx := hid (keepB HSx.out HF7.out (lt_of_heap HF7.out) (by omega))
    have HVx := hid (HV7.out.oth HSx.out HE7.out (by decide) (by have := HG.out; omega))
    obtain ⟨w8, Hw8⟩ : ∃ w8, Hid (w8 = wx.setCell ⟨G + 1 + 1, 0, none⟩ (.int .i64 0)) := ⟨_, rfl⟩
    have HS8 : Hid (Apart [G + 1 + 1] wx w8) := by unfold Hid; rw [Hw8.out]; exact (Apart.refl _ _).setCell (.inl (by simp)) _
    have HF8 : Hid (w8.heap[G + 1 + 1]? = some (.cells #[.int .i64 0] 40 (0, 0))) := by
      unfold Hid
      rw [Hw8.out]
      have := heap_setCell_same wx (G + 1 + 1) 0 _ 40 (.int .i64 0) HFx.out
      simpa using this
    have HG8 := hid (keepB HS8.out HGx.out (lt_of_heap HGx.out) (by omega))
    have HE8 := hid (keepB HS8.out HEx.out (lt_of_heap HEx.out) (by omega))
    have HV8 := hid (HVx.out.oth HS8.out HFx.out (by decide) (by have := HG.out; omega))
    have HA8 : Hid (Apart [] w w8) := by
      have hg := HG.out
      have b6 := HA5.out.trans' HS6.out (by intro y hy; simp at hy; rw [hy]; exact .inr (by omega))
      have b6d := b6.trans' HSd.out (by intro y hy; simp at hy)
      have b7 := b6d.trans' HS7.out (by intro y hy; simp at hy; rw [hy]; exact .inr (by omega))
      have bx := b7.trans' HSx.out (by intro y hy; simp at hy; rw [hy]; exact .inr (by omega))
      exact bx.trans' HS8.out (by intro y hy; simp at hy; rw [hy]; exact .inr (by omega))
    have HP : Hid (RdP w w8 (.returned (.tuple #[.agg (E.cs e0).toArray, .int .i64 (q' : Nat), .int .i64 0])) (rlone B q) (.agg zE) (VWr w)) := ⟨HA8.out, fun a' q2 h => (by rw [HR.out] at h; cases h; exact ⟨_, rfl, HV8.out⟩), fun y h => (by rw [HR.out] at h; cases h)⟩
    have HRc7 := hid ((HRd.out.other HS7.out HGd.out (by decide) (by have := HG.out; omega)).cells.2.1)
    have HRcx := hid (((HRd.out.other HS7.out HGd.out (by decide) (by have := HG.out; omega)).other HSx.out HE7.out (by decide) (by have := HG.out; omega)).cells.2.1)
    have HRc8 := hid ((((HRd.out.other HS7.out HGd.out (by decide) (by have := HG.out; omega)).other HSx.out HE7.out (by decide) (by have := HG.out; omega)).other HS8.out HFx.out (by decide) (by have := HG.out; omega)).cells.2.1)
    have z0 : wd.cell? ⟨G, 0, none⟩ = some (.int .i64 e0.n) := crow HGd.out 0 _ rfl
    have y0 := frozen_of_row _ _ 0 _ _ HGd.out
    have z1 : wd.cell? ⟨G, 1, none⟩ = some (.int .i64 e0.c) := crow HGd.out 1 _ rfl
    have y1 := frozen_of_row _ _ 1 _ _ HGd.out
    have z2 : wd.cell? ⟨G, 2, none⟩ = some (.string e0.k) := crow HGd.out 2 _ rfl
    have y2 := frozen_of_row _ _ 2 _ _ HGd.out
    have z3 : wd.cell? ⟨G, 3, none⟩ = some (.bool e0.d) := crow HGd.out 3 _ rfl
    have y3 := frozen_of_row _ _ 3 _ _ HGd.out
    have z4 : wd.cell? ⟨G, 4, none⟩ = some (.slice e0.v.p e0.v.n e0.v.c) := crow HGd.out 4 _ rfl
    have y4 := frozen_of_row _ _ 4 _ _ HGd.out
    have z5 : wd.cell? ⟨G, 5, none⟩ = some (.slice e0.x.p e0.x.n e0.x.c) := crow HGd.out 5 _ rfl
    have y5 := frozen_of_row _ _ 5 _ _ HGd.out
    refine wpAnyH_ready (rs := [5]) (by kernel_rfl) (by simp) ?_
    refine AllReadyH.cons rfl (fun KK hKK => ?_) AllReadyH.nil
    go_simp
    rw [← Hw7.out]
    clear z0 z1 z2 z3 z4 z5 y0 y1 y2 y3 y4 y5
    refine hKK.out _ _ ⟨HG7.out, HRc7.out⟩ (fun hHeld => ?_)
    clear hKK KK
    have e0 : w7.cell? ⟨G + 1, 0, none⟩ = some (.int .i64 0) := by rw [cell_of_row _ _ _ _ _ _ HE7.out]; rfl
    have e1 := frozen_of_row _ _ 0 _ _ HE7.out
    refine wpAnyH_ready (rs := [6]) (by kernel_rfl) (by simp) ?_
    refine AllReadyH.cons rfl (fun KK hKK => ?_) AllReadyH.nil
    go_simp
    rw [← Hwx.out]
    clear e0 e1
    refine hKK.out _ _ ⟨HGx.out, HRcx.out⟩ (fun hHeld => ?_)
    clear hKK KK
    have g0 : wx.cell? ⟨G + 1 + 1, 0, none⟩ = some (.int .i64 0) := by rw [cell_of_row _ _ _ _ _ _ HFx.out]; rfl
    have g1 := frozen_of_row _ _ 0 _ _ HFx.out
    refine wpAnyH_ready (rs := [7]) (by kernel_rfl) (by simp) ?_
    refine AllReadyH.cons rfl (fun KK hKK => ?_) AllReadyH.nil
    go_simp
    rw [← Hw8.out]
    clear g0 g1
    refine hKK.out _ _ ⟨HG8.out, HRc8.out⟩ (fun hHeld => ?_)
    clear hKK KK
    refine wpAnyH_done (by kernel_rfl) ?_ _
    refine NoPanic.normal ?_
    go_wp2_with fail
    refine leaves_cons (f := 93) (args := #[.pointer (some ⟨G + 1, 0, none⟩), .pointer (some ⟨G + 1 + 1, 0, none⟩)]) (by simp) (by simp [go_sem]) ?_
    refine (catch95_idle ⟨G + 1, 0, none⟩ ⟨G + 1 + 1, 0, none⟩ w8).mono ?_
    rintro e2 u' w9 ⟨rfl, rfl, hw9⟩
    rw [hw9]
    clear hw9 w9
    have c0 : w8.cell? ⟨G, 0, none⟩ = some (.int .i64 e0.n) := crow HG8.out 0 _ rfl
    have c1 : w8.cell? ⟨G, 1, none⟩ = some (.int .i64 e0.c) := crow HG8.out 1 _ rfl
    have c2 : w8.cell? ⟨G, 2, none⟩ = some (.string e0.k) := crow HG8.out 2 _ rfl
    have c3 : w8.cell? ⟨G, 3, none⟩ = some (.bool e0.d) := crow HG8.out 3 _ rfl
    have c4 : w8.cell? ⟨G, 4, none⟩ = some (.slice e0.v.p e0.v.n e0.v.c) := crow HG8.out 4 _ rfl
    have c5 : w8.cell? ⟨G, 5, none⟩ = some (.slice e0.x.p e0.x.n e0.x.c) := crow HG8.out 5 _ rfl
    have ce : w8.cell? ⟨G + 1, 0, none⟩ = some (.int .i64 (q' : Nat)) := by rw [cell_of_row _ _ _ _ _ _ HE8.out]; rfl
    have cf : w8.cell? ⟨G + 1 + 1, 0, none⟩ = some (.int .i64 0) := by rw [cell_of_row _ _ _ _ _ _ HF8.out]; rfl
    simp [Leaves, settle, results, Tryz.results57, go_sem, c0, c1, c2, c3, c4, c5, ce, cf]
    exact HP.out
end Go.Proofs.YtddffdcjhleejaaGreat.ds
namespace Go.Proofs.YtddffdcjhleejaaGreat.ds
open Go.ChangeShapes Go.WideShapes Go.ChangeAt Go.RowKit Go.Sort
set_option linter.unusedVariables false
theorem row11 {w : World} {g t : Nat} {a0 a1 a2 a3 a4 a5 a6 a7 a8 a9 a10 : Value} (h : w.heap[g]? = some (.cells #[a0, a1, a2, a3, a4, a5, a6, a7, a8, a9, a10] t (0, 0))) : (w.cell? ⟨g, 0, none⟩ = some a0 ∧ w.cell? ⟨g, 1, none⟩ = some a1 ∧ w.cell? ⟨g, 2, none⟩ = some a2 ∧ w.cell? ⟨g, 3, none⟩ = some a3 ∧ w.cell? ⟨g, 4, none⟩ = some a4 ∧ w.cell? ⟨g, 5, none⟩ = some a5) ∧ w.cell? ⟨g, 6, none⟩ = some a6 ∧ w.cell? ⟨g, 7, none⟩ = some a7 ∧ w.cell? ⟨g, 8, none⟩ = some a8 ∧ w.cell? ⟨g, 9, none⟩ = some a9 ∧ w.cell? ⟨g, 10, none⟩ = some a10 :=
  ⟨⟨crow h 0 _ rfl, crow h 1 _ rfl, crow h 2 _ rfl, crow h 3 _ rfl, crow h 4 _ rfl, crow h 5 _ rfl⟩, crow h 6 _ rfl, crow h 7 _ rfl, crow h 8 _ rfl, crow h 9 _ rfl, crow h 10 _ rfl⟩
/-- the last dot of a list -/
def la (rs : List Wr) : Int × Int := match rs.getLast? with
  | none => (0, 0)
  | some r => (r.n, r.c)
theorem la_snoc (rs : List Wr) (r : Wr) : la (rs ++ [r]) = (r.n, r.c) := by unfold la; simp
end Go.Proofs.YtddffdcjhleejaaGreat.ds
namespace Go.Proofs.YtddffdcjhleejaaGreat.ds
open Go.ChangeShapes Go.WideShapes Go.ChangeAt Go.RowKit Go.Sort
set_option linter.unusedVariables false
set_option linter.unusedSimpArgs false
set_option maxHeartbeats 8000000 in
set_option maxRecDepth 100000 in
theorem fieldsI_0 (k : Int) (hk : ¬ (1 ≤ k ∧ k ≤ 11)) (w : World) : Calls Tryz.prog 39 #[.int .i64 k] w fun r w' => r = .returned (.int .u64 0) ∧ w' = w := by
  have i1 : ¬ k = 1 := by omega
  have i2 : ¬ k = 2 := by omega
  have i3 : ¬ k = 3 := by omega
  have i4 : ¬ k = 4 := by omega
  have i5 : ¬ k = 5 := by omega
  have i6 : ¬ k = 6 := by omega
  have i7 : ¬ k = 7 := by omega
  have i8 : ¬ k = 8 := by omega
  have i9 : ¬ k = 9 := by omega
  have i10 : ¬ k = 10 := by omega
  have i11 : ¬ k = 11 := by omega
  clear hk
  go_enter Tryz.func39, Tryz.ntmps39
  go_wp2_with fail
  go_ret
  exact ⟨rfl, rfl⟩
def numsP (m : MI) : Prop := (0 ≤ m.frm ∧ m.frm ≤ 7) ∧ (0 ≤ m.dst ∧ m.dst ≤ 7) ∧ (0 ≤ m.call ∧ m.call ≤ 4096) ∧ (0 ≤ m.own ∧ m.own ≤ 7) ∧ (0 ≤ m.rng ∧ m.rng ≤ 15)
set_option maxHeartbeats 8000000 in
set_option maxRecDepth 100000 in
theorem numbersI_ok (w : World) (m : MI) (v : Bool) (hv : v = true ↔ numsP m) : Calls Tryz.prog 41 #[.agg #[.int .i64 m.kind, .int .i64 m.frm, .int .i64 m.dst, .int .i64 m.call, .int .i64 m.rng, .int .i64 m.own, .string m.key, .int .i64 m.dn, .int .i64 m.dc, .slice m.set.p m.set.n m.set.c, .slice m.ws.p m.ws.n m.ws.c]] w fun r w' => r = .returned (.bool v) ∧ Apart [] w w' := by
  obtain ⟨v1, h1⟩ := bool_of' (0 ≤ m.frm ∧ m.frm ≤ 7)
  obtain ⟨v2, h2⟩ := bool_of' (0 ≤ m.dst ∧ m.dst ≤ 7)
  obtain ⟨v3, h3⟩ := bool_of' (0 ≤ m.call ∧ m.call ≤ 4096)
  obtain ⟨v4, h4⟩ := bool_of' (0 ≤ m.own ∧ m.own ≤ 7)
  obtain ⟨v5, h5⟩ := bool_of' (0 ≤ m.rng ∧ m.rng ≤ 15)
  have HC1 := hid (fun W => isNode_ok m.frm v1 h1 W)
  have HC2 := hid (fun W => isNode_ok m.dst v2 h2 W)
  have HC3 := hid (fun W => within_ok m.call 0 4096 v3 h3 W)
  have HC4 := hid (fun W => isNode_ok m.own v4 h4 W)
  have HC5 := hid (fun W => within_ok m.rng 0 15 v5 h5 W)
  have HV : Hid (v = (v1 && (v2 && (v3 && (v4 && v5))))) := by
    unfold Hid
    have : (v = true) ↔ ((v1 && (v2 && (v3 && (v4 && v5)))) = true) := by
      rw [hv]
      unfold numsP
      rw [← h1, ← h2, ← h3, ← h4, ← h5]
      simp
    cases v <;> cases hh : (v1 && (v2 && (v3 && (v4 && v5)))) <;> simp_all
  obtain ⟨w1, hw1⟩ : ∃ w1, w1 = w.alloc (.cells #[.int .i64 m.kind, .int .i64 m.frm, .int .i64 m.dst, .int .i64 m.call, .int .i64 m.rng, .int .i64 m.own, .string m.key, .int .i64 m.dn, .int .i64 m.dc, .slice m.set.p m.set.n m.set.c, .slice m.ws.p m.ws.n m.ws.c] 29) := ⟨_, rfl⟩
  have HA1 : Hid (Apart [] w w1) := by unfold Hid; rw [hw1]; exact (Apart.refl [] w).alloc _
  have HX1 : Hid (w1.heap[w.heap.size]? = some (.cells #[.int .i64 m.kind, .int .i64 m.frm, .int .i64 m.dst, .int .i64 m.call, .int .i64 m.rng, .int .i64 m.own, .string m.key, .int .i64 m.dn, .int .i64 m.dc, .slice m.set.p m.set.n m.set.c, .slice m.ws.p m.ws.n m.ws.c] 29 (0, 0))) := by unfold Hid; rw [hw1]; exact heap_alloc_new w _
  clear h1 h2 h3 h4 h5 hv
  obtain ⟨⟨c0, c1, c2, c3, c4, c5⟩, c6, c7, c8, c9, c10⟩ := row11 HX1.out
  go_enter Tryz.func41, Tryz.ntmps41
  go_upto_region 1 with fail
  rw [← hw1]
  clear hw1
  go_wp2_with fail
  refine (HC1.out w1).mono ?_
  rintro _ wn ⟨rfl, hwn⟩
  rw [hwn]
  clear hwn wn
  try dsimp only
  cases v1 with
  | false =>
    have hv : v = false := by rw [HV.out]; rfl
    subst hv
    go_wp2_with fail
    go_ret
    exact ⟨rfl, HA1.out⟩
  | true =>
    go_wp2_with fail
    refine (HC2.out w1).mono ?_
    rintro _ wn ⟨rfl, hwn⟩
    rw [hwn]
    clear hwn wn
    try dsimp only
    cases v2 with
    | false =>
      have hv : v = false := by rw [HV.out]; rfl
      subst hv
      go_wp2_with fail
      go_ret
      exact ⟨rfl, HA1.out⟩
    | true =>
      go_wp2_with fail
      refine (HC3.out w1).mono ?_
      rintro _ wn ⟨rfl, hwn⟩
      rw [hwn]
      clear hwn wn
      try dsimp only
      cases v3 with
      | false =>
        have hv : v = false := by rw [HV.out]; rfl
        subst hv
        go_wp2_with fail
        go_ret
        exact ⟨rfl, HA1.out⟩
      | true =>
        go_wp2_with fail
        refine (HC4.out w1).mono ?_
        rintro _ wn ⟨rfl, hwn⟩
        rw [hwn]
        clear hwn wn
        try dsimp only
        cases v4 with
        | false =>
          have hv : v = false := by rw [HV.out]; rfl
          subst hv
          go_wp2_with fail
          go_ret
          exact ⟨rfl, HA1.out⟩
        | true =>
          go_wp2_with fail
          refine (HC5.out w1).mono ?_
          rintro _ wn ⟨rfl, hwn⟩
          rw [hwn]
          clear hwn wn
          try dsimp only
          have hv : v = v5 := by rw [HV.out]; rfl
          subst hv
          go_wp2_with fail
          go_ret
          exact ⟨rfl, HA1.out⟩
end Go.Proofs.YtddffdcjhleejaaGreat.ds
