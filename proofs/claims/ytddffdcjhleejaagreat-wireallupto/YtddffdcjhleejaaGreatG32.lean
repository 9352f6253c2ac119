import Derived.Test.YtddffdcjhleejaaGreatG26
namespace Go.Proofs.YtddffdcjhleejaaGreat.ds
open Go.ChangeShapes Go.WideShapes Go.ChangeAt Go.RowKit Go.Sort
set_option linter.unusedVariables false
set_option linter.unusedSimpArgs false
theorem VSet.oth {wB w w' : World} {a : List S} {v : Value} {X : Nat} {cur : Array Value} {t : Nat} (h : VSet wB a v w) (ap : Apart [X] w w') (hX : w.heap[X]? = some (.cells cur t (0, 0))) (ht : t ≠ 48) (hn : wB.heap.size ≤ X) : VSet wB a v w' := by
  obtain ⟨s, h1, h2, h3⟩ := h
  exact ⟨s, h1, h2.oth ap hX ht hn, h3⟩
set_option maxHeartbeats 8000000 in
set_option maxRecDepth 100000 in
/-- read at a set's reader -/
theorem read_set {w : World} {p : Option Addr} {N c : Nat} {B : List Nat} (h : Dat w p N c B) (q : Nat) (hq : q ≤ N) :
    Calls Tryz.prog 53 #[.slice p N c, .int .i64 (q : Nat), .func (.func 54) #[] #[]] w fun e w' => RdP w w' e (rset B q) (.slice none 0 0) (VSet w) := by
  have hmf : ∀ (fn : Fn) (first cap : Array Value) (w : World), (Instr.makeFunc fn first cap).run Tryz.prog w = .ok (.func fn first cap) w := fun _ _ _ _ => rfl
  have HDt := hid h
  have hl := h.lim
  have hq0 : ¬ ((q : Nat) : Int) < 0 := by omega
  have hqN : ¬ ((q : Nat) : Int) > (N : Int) := by omega
  obtain ⟨wb, hwb⟩ : ∃ wb, wb = w.alloc (.cells #[.int .i64 0] 3) := ⟨_, rfl⟩
  obtain ⟨wc, hwc⟩ : ∃ wc, wc = wb.alloc (.cells #[.int .i64 0] 40) := ⟨_, rfl⟩
  obtain ⟨w4, hw4⟩ : ∃ w4, w4 = wc.alloc (.cells #[.slice p N c, .int .i64 (q : Nat)] 115) := ⟨_, rfl⟩
  obtain ⟨G, HG⟩ : ∃ G, Hid (G = w.heap.size) := ⟨_, rfl⟩
  have sb : wb.heap.size = G + 1 := by rw [hwb, HG.out]; simp
  have sc : wc.heap.size = G + 1 + 1 := by rw [hwc]; simp [sb]
  have ab : Apart [] w wb := by rw [hwb]; exact (Apart.refl [] w).alloc _
  have ac : Apart [] wb wc := by rw [hwc]; exact (Apart.refl [] wb).alloc _
  have ad : Apart [] wc w4 := by rw [hw4]; exact (Apart.refl [] wc).alloc _
  have g2 : wb.heap[G]? = some (.cells #[.int .i64 0] 3 (0, 0)) := by rw [HG.out, hwb]; exact heap_alloc_new w _
  have g3 : wc.heap[G + 1]? = some (.cells #[.int .i64 0] 40 (0, 0)) := by rw [← sb, hwc]; exact heap_alloc_new wb _
  have g4 : w4.heap[G + 1 + 1]? = some (.cells #[.slice p N c, .int .i64 (q : Nat)] 115 (0, 0)) := by rw [← sc, hw4]; exact heap_alloc_new wc _
  have HE4 : Hid (w4.heap[G]? = some (.cells #[.int .i64 0] 3 (0, 0))) := ((ac.trans ad).block _ (lt_of_heap g2) (by simp)).trans g2
  have HF4 : Hid (w4.heap[G + 1]? = some (.cells #[.int .i64 0] 40 (0, 0))) := (ad.block _ (lt_of_heap g3) (by simp)).trans g3
  have HA4 : Hid (Apart [] w w4) := ab.trans (ac.trans ad)
  have HRB := hid (HDt.out.reader HA4.out g4 (by have := HG.out; omega) hq)
  clear h ab ac ad g2 g3 g4 sb sc
  rw [hwc, hwb] at hw4
  clear hwb hwc
  go_enter_defers Tryz.func53, Tryz.ntmps53
  go_wp2_with fail
  rw [← hw4, ← HG.out]
  clear hw4
  refine (set_ok HRB.out).mono ?_
  rintro e w5 ⟨ha, hm⟩
  have HS5 := hid ha
  have HE5 := hid (keepB ha HE4.out (lt_of_heap HE4.out) (by omega))
  have HF5 := hid (keepB ha HF4.out (lt_of_heap HF4.out) (by omega))
  have HA5 : Hid (Apart [] w w5) := HA4.out.trans' ha (by intro y hy; simp at hy; rw [hy]; have := HG.out; exact .inr (by omega))
  clear ha
  cases hr : rset B q with
  | error x =>
    rw [hr] at hm
    have he : e = wrongAt x := hm
    subst he
    unfold wrongAt
    have HR := hid hr
    clear hr hm
    try dsimp only
    refine leaves_cons (f := 89) (args := #[.pointer (some ⟨G, 0, none⟩), .pointer (some ⟨G + 1, 0, none⟩)]) (by simp) (by simp [go_sem]) ?_
    refine (catch97_panicking ⟨G, 0, none⟩ ⟨G + 1, 0, none⟩ x (.int .i64 0) (.int .i64 0) w5 (by rw [cell_of_row _ _ _ _ _ _ HE5.out]; rfl) (frozen_of_row _ _ 0 _ _ HE5.out) (by rw [cell_of_row _ _ _ _ _ _ HF5.out]; rfl) (frozen_of_row _ _ 0 _ _ HF5.out) (by simp)).mono ?_
    rintro e2 u' w6 ⟨rfl, rfl, hw6⟩
    have HS6 : Hid (Apart [G, G + 1] w5 w6) := by unfold Hid; rw [hw6]; exact ((Apart.refl _ _).setCell (.inl (by simp)) _).setCell (.inl (by simp)) _
    have HE6 : Hid (w6.heap[G]? = some (.cells #[.int .i64 (x : Nat)] 3 (0, 0))) := by
      unfold Hid
      rw [hw6]
      have h1 := heap_setCell_same w5 G 0 _ 3 (.int .i64 (x : Nat)) HE5.out
      have a2 : Apart [G + 1] (w5.setCell ⟨G, 0, none⟩ (.int .i64 (x : Nat))) ((w5.setCell ⟨G, 0, none⟩ (.int .i64 (x : Nat))).setCell ⟨G + 1, 0, none⟩ (.int .i64 60)) := (Apart.refl _ _).setCell (.inl (by simp)) _
      have := (a2.block _ (lt_of_heap h1) (by simp)).trans h1
      simpa using this
    have HF6 : Hid (w6.heap[G + 1]? = some (.cells #[.int .i64 60] 40 (0, 0))) := by
      unfold Hid
      rw [hw6]
      have a1 : Apart [G] w5 (w5.setCell ⟨G, 0, none⟩ (.int .i64 (x : Nat))) := (Apart.refl _ _).setCell (.inl (by simp)) _
      have h0 := (a1.block _ (lt_of_heap HF5.out) (by simp)).trans HF5.out
      have h1 := heap_setCell_same _ (G + 1) 0 _ 40 (.int .i64 60) h0
      simpa using h1
    have HA6 : Hid (Apart [] w w6) := HA5.out.trans' HS6.out (by intro y hy; simp at hy; have := HG.out; rcases hy with hy | hy <;> (rw [hy]; exact .inr (by omega)))
    clear hw6
    have ce : w6.cell? ⟨G, 0, none⟩ = some (.int .i64 (x : Nat)) := by rw [cell_of_row _ _ _ _ _ _ HE6.out]; rfl
    have cf : w6.cell? ⟨G + 1, 0, none⟩ = some (.int .i64 60) := by rw [cell_of_row _ _ _ _ _ _ HF6.out]; rfl
    have HP : Hid (RdP w w6 (.returned (.tuple #[.slice none 0 0, .int .i64 (x : Nat), .int .i64 60])) (rset B q) (.slice none 0 0) (VSet w)) := ⟨HA6.out, fun a q' h => (by rw [HR.out] at h; cases h), fun y h => (by rw [HR.out] at h; cases h; rfl)⟩
    simp [Leaves, settle, results, Tryz.results53, go_sem, ce, cf]
    exact HP.out
  | ok t =>
    obtain ⟨a, q'⟩ := t
    rw [hr] at hm
    obtain ⟨⟨v, hev, hv⟩, hrb⟩ := hm
    subst hev
    have HR := hid hr
    have HRb := hid hrb
    have HV5 := hid hv
    obtain ⟨s, hvm, -⟩ := hv
    clear hr hrb
    subst hvm
    try dsimp only
    go_wp2_with fail
    refine wp_region_noPanic ?_
    refine wp_region_held_drew (S := fun W => W.cell? ⟨G + 1 + 1, 1, none⟩ = some (.int .i64 (q' : Nat))) (by kernel_rfl) ((HRb.out.kept (Apart.refl [] w5).drew).cells).2.1 (fun hHeld => ?_)
    have HSd : Hid (Apart [] w5 w5.drew) := (Apart.refl [] w5).drew
    generalize w5.drew = wd at *
    have HEd := hid ((HSd.out.block _ (lt_of_heap HE5.out) (by simp)).trans HE5.out)
    have HFd := hid ((HSd.out.block _ (lt_of_heap HF5.out) (by simp)).trans HF5.out)
    have HRd := hid (HRb.out.kept HSd.out)
    have HVd := hid (HV5.out.oth (X := G) (HSd.out.mono (by simp)) HE5.out (by decide) (by have := HG.out; omega))
    have hS0 : wd.cell? ⟨G + 1 + 1, 1, none⟩ = some (.int .i64 (q' : Nat)) := HRd.out.cells.2.1
    refine tkn 0 27 (.slice s.p s.n s.c) rfl ?_ ?_
    · intro W hSW; go_simp
    refine tkn 1 28 (.pointer (some ⟨G + 1 + 1, 0, none⟩)) rfl ?_ ?_
    · intro W hSW; go_simp
    refine tkn 2 29 (.pointer (some ⟨G + 1 + 1, 0, none⟩)) rfl ?_ ?_
    · intro W hSW; go_simp
    refine tkn 3 30 (.pointer (some ⟨G + 1 + 1, 1, none⟩)) rfl ?_ ?_
    · intro W hSW; go_simp
    refine tkn 4 31 (.int .i64 (q' : Nat)) rfl ?_ ?_
    · intro W hSW; have z1 : W.cell? ⟨G + 1 + 1, 1, none⟩ = some (.int .i64 (q' : Nat)) := hSW; go_simp
    refine tkn 5 6 (.slice s.p s.n s.c) rfl ?_ ?_
    · intro W hSW; go_simp
    obtain ⟨wx, Hwx⟩ : ∃ wx, Hid (wx = wd.setCell ⟨G, 0, none⟩ (.int .i64 (q' : Nat))) := ⟨_, rfl⟩
    have HSx : Hid (Apart [G] wd wx) := by unfold Hid; rw [Hwx.out]; exact (Apart.refl _ _).setCell (.inl (by simp)) _
    have HEx : Hid (wx.heap[G]? = some (.cells #[.int .i64 (q' : Nat)] 3 (0, 0))) := by
      unfold Hid
      rw [Hwx.out]
      have := heap_setCell_same wd G 0 _ 3 (.int .i64 (q' : Nat)) HEd.out
      simpa using this
    have HFx := hid (keepB HSx.out HFd.out (lt_of_heap HFd.out) (by omega))
    have HVx := hid (HVd.out.oth HSx.out HEd.out (by decide) (by have := HG.out; omega))
    obtain ⟨w8, Hw8⟩ : ∃ w8, Hid (w8 = wx.setCell ⟨G + 1, 0, none⟩ (.int .i64 0)) := ⟨_, rfl⟩
    have HS8 : Hid (Apart [G + 1] wx w8) := by unfold Hid; rw [Hw8.out]; exact (Apart.refl _ _).setCell (.inl (by simp)) _
    have HF8 : Hid (w8.heap[G + 1]? = some (.cells #[.int .i64 0] 40 (0, 0))) := by
      unfold Hid
      rw [Hw8.out]
      have := heap_setCell_same wx (G + 1) 0 _ 40 (.int .i64 0) HFx.out
      simpa using this
    have HE8 := hid (keepB HS8.out HEx.out (lt_of_heap HEx.out) (by omega))
    have HV8 := hid (HVx.out.oth HS8.out HFx.out (by decide) (by have := HG.out; omega))
    have HA8 : Hid (Apart [] w w8) := by
      have hg := HG.out
      have b6d := HA5.out.trans' HSd.out (by intro y hy; simp at hy)
      have bx := b6d.trans' HSx.out (by intro y hy; simp at hy; rw [hy]; exact .inr (by omega))
      exact bx.trans' HS8.out (by intro y hy; simp at hy; rw [hy]; exact .inr (by omega))
    have HP : Hid (RdP w w8 (.returned (.tuple #[.slice s.p s.n s.c, .int .i64 (q' : Nat), .int .i64 0])) (rset B q) (.slice none 0 0) (VSet w)) := ⟨HA8.out, fun a' q2 h => (by rw [HR.out] at h; cases h; exact ⟨_, rfl, HV8.out⟩), fun y h => (by rw [HR.out] at h; cases h)⟩
    have HRcx := hid ((HRd.out.other HSx.out HEd.out (by decide) (by have := HG.out; omega)).cells.2.1)
    have HRc8 := hid (((HRd.out.other HSx.out HEd.out (by decide) (by have := HG.out; omega)).other HS8.out HFx.out (by decide) (by have := HG.out; omega)).cells.2.1)
    have e0 : wd.cell? ⟨G, 0, none⟩ = some (.int .i64 0) := by rw [cell_of_row _ _ _ _ _ _ HEd.out]; rfl
    have e1 := frozen_of_row _ _ 0 _ _ HEd.out
    refine wpAnyH_ready (rs := [6]) (by kernel_rfl) (by simp) ?_
    refine AllReadyH.cons rfl (fun KK hKK => ?_) AllReadyH.nil
    go_simp
    rw [← Hwx.out]
    clear e0 e1
    refine hKK.out _ _ HRcx.out (fun hHeld => ?_)
    clear hKK KK
    have g0 : wx.cell? ⟨G + 1, 0, none⟩ = some (.int .i64 0) := by rw [cell_of_row _ _ _ _ _ _ HFx.out]; rfl
    have g1 := frozen_of_row _ _ 0 _ _ HFx.out
    refine wpAnyH_ready (rs := [7]) (by kernel_rfl) (by simp) ?_
    refine AllReadyH.cons rfl (fun KK hKK => ?_) AllReadyH.nil
    go_simp
    rw [← Hw8.out]
    clear g0 g1
    refine hKK.out _ _ HRc8.out (fun hHeld => ?_)
    clear hKK KK
    refine wpAnyH_done (by kernel_rfl) ?_ _
    refine NoPanic.normal ?_
    go_wp2_with fail
    refine leaves_cons (f := 89) (args := #[.pointer (some ⟨G, 0, none⟩), .pointer (some ⟨G + 1, 0, none⟩)]) (by simp) (by simp [go_sem]) ?_
    refine (catch97_idle ⟨G, 0, none⟩ ⟨G + 1, 0, none⟩ w8).mono ?_
    rintro e2 u' w9 ⟨rfl, rfl, hw9⟩
    rw [hw9]
    clear hw9 w9
    have ce : w8.cell? ⟨G, 0, none⟩ = some (.int .i64 (q' : Nat)) := by rw [cell_of_row _ _ _ _ _ _ HE8.out]; rfl
    have cf : w8.cell? ⟨G + 1, 0, none⟩ = some (.int .i64 0) := by rw [cell_of_row _ _ _ _ _ _ HF8.out]; rfl
    simp [Leaves, settle, results, Tryz.results53, go_sem, ce, cf]
    exact HP.out
end Go.Proofs.YtddffdcjhleejaaGreat.ds
namespace Go.Proofs.YtddffdcjhleejaaGreat.ds
open Go.ChangeShapes Go.WideShapes Go.ChangeAt Go.RowKit Go.Sort
set_option linter.unusedVariables false
set_option linter.unusedSimpArgs false
set_option maxHeartbeats 8000000 in
set_option maxRecDepth 100000 in
/-- GetSet -/
theorem getSet_ok {w : World} {p : Option Addr} {N c : Nat} {B : List Nat} (h : Dat w p N c B) (q : Nat) (hq : q ≤ N) :
    Calls Tryz.prog 24 #[.slice p N c, .int .i64 (q : Nat)] w fun e w' => RdP w w' e (rset B q) (.slice none 0 0) (VSet w) := by
  have HC := hid (read_set h q hq)
  clear h hq
  go_enter Tryz.func24, Tryz.ntmps24
  go_wp2_with fail
  refine HC.out.mono ?_
  rintro e w1 hP
  have HP := hid hP
  cases hr : rset B q with
  | error x =>
    have he := HP.out.no x hr
    subst he
    have HR := hid hr
    clear hr hP
    try dsimp only
    go_wp2_with fail
    go_ret3
    exact HP.out
  | ok t =>
    obtain ⟨a, q'⟩ := t
    obtain ⟨v, he, hv⟩ := HP.out.ok a q' hr
    subst he
    have HR := hid hr
    obtain ⟨s, hs, -⟩ := hv
    subst hs
    clear hr hP
    try dsimp only
    go_wp2_with fail
    go_ret3
    exact HP.out
end Go.Proofs.YtddffdcjhleejaaGreat.ds
namespace Go.Proofs.YtddffdcjhleejaaGreat.ds
open Go.ChangeShapes Go.WideShapes Go.ChangeAt Go.RowKit Go.Sort
set_option linter.unusedVariables false
set_option linter.unusedSimpArgs false
theorem Nw.base {w w0 w' : World} {e size : Nat} {s : Sl} {us : List Value} (h : Nw w0 w' e size s us) (a : Apart [] w w0) : Nw w w' e size s us := ⟨h.own, fun k hk => Nat.le_trans a.size (h.new k hk), a.trans h.ap⟩
theorem Fresh.base {w w0 w' : World} {e : E} {r : Wr} (h : Fresh w0 w' e r) (a : Apart [] w w0) : Fresh w w' e r := { h with v := h.v.base a, x := h.x.base a }
theorem VWr.base {w w0 w' : World} {a : Wr} {v : Value} (h : VWr w0 a v w') (ap : Apart [] w w0) : VWr w a v w' := by
  obtain ⟨e, h1, h2⟩ := h
  exact ⟨e, h1, h2.base ap⟩
theorem Dat.kept {w w' : World} {p : Option Addr} {N c : Nat} {B : List Nat} (h : Dat w p N c B) (a : Apart [] w w') : Dat w' p N c B :=
  { h with rd := h.rd.kept0 a, lt := fun P o e => Nat.lt_of_lt_of_le (h.lt P o e) a.size }
set_option maxHeartbeats 8000000 in
set_option maxRecDepth 100000 in
/-- GetWrite -/
theorem getWrite_ok {w : World} {p : Option Addr} {N c : Nat} {B : List Nat} (h : Dat w p N c B) (q : Nat) (hq : q ≤ N) :
    Calls Tryz.prog 29 #[.slice p N c, .int .i64 (q : Nat)] w fun e w' => RdP w w' e (rlone B q) (.agg zE) (VWr w) := by
  obtain ⟨w0, hw0⟩ : ∃ w0, w0 = w.alloc (.cells #[Value.int IntKind.i64 0, Value.int IntKind.i64 0, Value.string { data := #[] }, Value.bool false, Value.slice none 0 0, Value.slice none 0 0] 37) := ⟨_, rfl⟩
  obtain ⟨G, HG⟩ : ∃ G, Hid (G = w.heap.size) := ⟨_, rfl⟩
  have a0 : Apart [] w w0 := by rw [hw0]; exact (Apart.refl [] w).alloc _
  have g0 : w0.heap[G]? = some (.cells zE 37 (0, 0)) := by rw [HG.out, hw0]; exact heap_alloc_new w _
  have HA0 := hid a0
  have HG0 := hid g0
  have HC := hid (read_wr (h.kept a0) q hq)
  clear h hq a0 g0
  go_enter Tryz.func29, Tryz.ntmps29
  go_wp2_with fail
  rw [← hw0, ← HG.out]
  clear hw0
  refine HC.out.mono ?_
  rintro e w1 hP
  have HP := hid hP
  have HA1 := hid (HA0.out.trans hP.ap)
  have HG1 := hid ((hP.ap.block _ (lt_of_heap HG0.out) (by simp)).trans HG0.out)
  cases hr : rlone B q with
  | error x =>
    have he := HP.out.no x hr
    subst he
    have HR := hid hr
    clear hr hP
    unfold zE
    try dsimp only
    have z0 : w1.cell? ⟨G, 0, none⟩ = _ := crow HG1.out 0 _ rfl
    have y0 := frozen_of_row _ _ 0 _ _ HG1.out
    have z1 : w1.cell? ⟨G, 1, none⟩ = _ := crow HG1.out 1 _ rfl
    have y1 := frozen_of_row _ _ 1 _ _ HG1.out
    have z2 : w1.cell? ⟨G, 2, none⟩ = _ := crow HG1.out 2 _ rfl
    have y2 := frozen_of_row _ _ 2 _ _ HG1.out
    have z3 : w1.cell? ⟨G, 3, none⟩ = _ := crow HG1.out 3 _ rfl
    have y3 := frozen_of_row _ _ 3 _ _ HG1.out
    have z4 : w1.cell? ⟨G, 4, none⟩ = _ := crow HG1.out 4 _ rfl
    have y4 := frozen_of_row _ _ 4 _ _ HG1.out
    have z5 : w1.cell? ⟨G, 5, none⟩ = _ := crow HG1.out 5 _ rfl
    have y5 := frozen_of_row _ _ 5 _ _ HG1.out
    obtain ⟨w2, Hw2⟩ : ∃ w2, Hid (w2 = ((((((w1.setCell ⟨G, 0, none⟩ (.int .i64 0)).setCell ⟨G, 1, none⟩ (.int .i64 0)).setCell ⟨G, 2, none⟩ (.string ⟨#[]⟩)).setCell ⟨G, 3, none⟩ (.bool false)).setCell ⟨G, 4, none⟩ (.slice none 0 0)).setCell ⟨G, 5, none⟩ (.slice none 0 0))) := ⟨_, rfl⟩
    have HG2 : Hid (w2.heap[G]? = some (.cells zE 37 (0, 0))) := by
      unfold Hid
      rw [Hw2.out]
      have h1 := heap_setCell_same w1 G 0 _ 37 (.int .i64 0) HG1.out
      have h2 := heap_setCell_same _ G 1 _ 37 (.int .i64 0) h1
      have h3 := heap_setCell_same _ G 2 _ 37 (.string ⟨#[]⟩) h2
      have h4 := heap_setCell_same _ G 3 _ 37 (.bool false) h3
      have h5 := heap_setCell_same _ G 4 _ 37 (.slice none 0 0) h4
      have h6 := heap_setCell_same _ G 5 _ 37 (.slice none 0 0) h5
      simpa [zE, E.cs, Sl.v] using h6
    have HS2 : Hid (Apart [G] w1 w2) := by unfold Hid; rw [Hw2.out]; exact (((((((Apart.refl _ _).setCell (.inl (by simp)) _).setCell (.inl (by simp)) _).setCell (.inl (by simp)) _).setCell (.inl (by simp)) _).setCell (.inl (by simp)) _).setCell (.inl (by simp)) _)
    have HA2 : Hid (Apart [] w w2) := HA1.out.trans' HS2.out (by intro y hy; simp at hy; rw [hy]; have := HG.out; exact .inr (by omega))
    have HP2 : Hid (RdP w w2 (.returned (.tuple #[.agg zE, .int .i64 (x : Nat), .int .i64 60])) (rlone B q) (.agg zE) (VWr w)) := ⟨HA2.out, fun a q' h => (by rw [HR.out] at h; cases h), fun y h => (by rw [HR.out] at h; cases h; rfl)⟩
    go_wp2_with fail
    rw [← Hw2.out]
    clear z0 y0 z1 y1 z2 y2 z3 y3 z4 y4 z5 y5
    have c0 : w2.cell? ⟨G, 0, none⟩ = some (.int .i64 0) := crow HG2.out 0 _ rfl
    have c1 : w2.cell? ⟨G, 1, none⟩ = some (.int .i64 0) := crow HG2.out 1 _ rfl
    have c2 : w2.cell? ⟨G, 2, none⟩ = some (.string ⟨#[]⟩) := crow HG2.out 2 _ rfl
    have c3 : w2.cell? ⟨G, 3, none⟩ = some (.bool false) := crow HG2.out 3 _ rfl
    have c4 : w2.cell? ⟨G, 4, none⟩ = some (.slice none 0 0) := crow HG2.out 4 _ rfl
    have c5 : w2.cell? ⟨G, 5, none⟩ = some (.slice none 0 0) := crow HG2.out 5 _ rfl
    refine bodyPost_ret (v := .tuple #[.agg zE, .int .i64 (x : Nat), .int .i64 60]) ?_ rfl HP2.out
    simp [results, Tryz.results29, go_sem, zE, E.cs, Sl.v, c0, c1, c2, c3, c4, c5]
  | ok t =>
    obtain ⟨a, q'⟩ := t
    obtain ⟨v, he, hv⟩ := HP.out.ok a q' hr
    subst he
    have HR := hid hr
    have HV := hid hv
    obtain ⟨e0, hs, -⟩ := hv
    subst hs
    clear hr hP
    unfold aggE
    try dsimp only
    have z0 : w1.cell? ⟨G, 0, none⟩ = _ := crow HG1.out 0 _ rfl
    have y0 := frozen_of_row _ _ 0 _ _ HG1.out
    have z1 : w1.cell? ⟨G, 1, none⟩ = _ := crow HG1.out 1 _ rfl
    have y1 := frozen_of_row _ _ 1 _ _ HG1.out
    have z2 : w1.cell? ⟨G, 2, none⟩ = _ := crow HG1.out 2 _ rfl
    have y2 := frozen_of_row _ _ 2 _ _ HG1.out
    have z3 : w1.cell? ⟨G, 3, none⟩ = _ := crow HG1.out 3 _ rfl
    have y3 := frozen_of_row _ _ 3 _ _ HG1.out
    have z4 : w1.cell? ⟨G, 4, none⟩ = _ := crow HG1.out 4 _ rfl
    have y4 := frozen_of_row _ _ 4 _ _ HG1.out
    have z5 : w1.cell? ⟨G, 5, none⟩ = _ := crow HG1.out 5 _ rfl
    have y5 := frozen_of_row _ _ 5 _ _ HG1.out
    obtain ⟨w2, Hw2⟩ : ∃ w2, Hid (w2 = ((((((w1.setCell ⟨G, 0, none⟩ (.int .i64 e0.n)).setCell ⟨G, 1, none⟩ (.int .i64 e0.c)).setCell ⟨G, 2, none⟩ (.string e0.k)).setCell ⟨G, 3, none⟩ (.bool e0.d)).setCell ⟨G, 4, none⟩ (.slice e0.v.p e0.v.n e0.v.c)).setCell ⟨G, 5, none⟩ (.slice e0.x.p e0.x.n e0.x.c))) := ⟨_, rfl⟩
    have HG2 : Hid (w2.heap[G]? = some (.cells (E.cs e0).toArray 37 (0, 0))) := by
      unfold Hid
      rw [Hw2.out]
      have h1 := heap_setCell_same w1 G 0 _ 37 (.int .i64 e0.n) HG1.out
      have h2 := heap_setCell_same _ G 1 _ 37 (.int .i64 e0.c) h1
      have h3 := heap_setCell_same _ G 2 _ 37 (.string e0.k) h2
      have h4 := heap_setCell_same _ G 3 _ 37 (.bool e0.d) h3
      have h5 := heap_setCell_same _ G 4 _ 37 (.slice e0.v.p e0.v.n e0.v.c) h4
      have h6 := heap_setCell_same _ G 5 _ 37 (.slice e0.x.p e0.x.n e0.x.c) h5
      simpa [zE, E.cs, Sl.v] using h6
    have HS2 : Hid (Apart [G] w1 w2) := by unfold Hid; rw [Hw2.out]; exact (((((((Apart.refl _ _).setCell (.inl (by simp)) _).setCell (.inl (by simp)) _).setCell (.inl (by simp)) _).setCell (.inl (by simp)) _).setCell (.inl (by simp)) _).setCell (.inl (by simp)) _)
    have HA2 : Hid (Apart [] w w2) := HA1.out.trans' HS2.out (by intro y hy; simp at hy; rw [hy]; have := HG.out; exact .inr (by omega))
    have HP2 : Hid (RdP w w2 (.returned (.tuple #[.agg (E.cs e0).toArray, .int .i64 (q' : Nat), .int .i64 0])) (rlone B q) (.agg zE) (VWr w)) := ⟨HA2.out, fun a' q2 h => (by rw [HR.out] at h; cases h; exact ⟨_, rfl, (HV.out.base HA0.out).oth HS2.out HG1.out (by decide) (by have := HG.out; omega)⟩), fun y h => (by rw [HR.out] at h; cases h)⟩
    go_wp2_with fail
    rw [← Hw2.out]
    clear z0 y0 z1 y1 z2 y2 z3 y3 z4 y4 z5 y5
    have c0 : w2.cell? ⟨G, 0, none⟩ = some (.int .i64 e0.n) := crow HG2.out 0 _ rfl
    have c1 : w2.cell? ⟨G, 1, none⟩ = some (.int .i64 e0.c) := crow HG2.out 1 _ rfl
    have c2 : w2.cell? ⟨G, 2, none⟩ = some (.string e0.k) := crow HG2.out 2 _ rfl
    have c3 : w2.cell? ⟨G, 3, none⟩ = some (.bool e0.d) := crow HG2.out 3 _ rfl
    have c4 : w2.cell? ⟨G, 4, none⟩ = some (.slice e0.v.p e0.v.n e0.v.c) := crow HG2.out 4 _ rfl
    have c5 : w2.cell? ⟨G, 5, none⟩ = some (.slice e0.x.p e0.x.n e0.x.c) := crow HG2.out 5 _ rfl
    refine bodyPost_ret (v := .tuple #[.agg (E.cs e0).toArray, .int .i64 (q' : Nat), .int .i64 0]) ?_ rfl HP2.out
    simp [results, Tryz.results29, go_sem, zE, E.cs, Sl.v, c0, c1, c2, c3, c4, c5]
end Go.Proofs.YtddffdcjhleejaaGreat.ds
