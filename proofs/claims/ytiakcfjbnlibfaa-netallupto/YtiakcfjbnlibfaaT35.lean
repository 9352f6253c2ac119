import Derived.Test.YtiakcfjbnlibfaaT2
import Derived.Deep.CutRange
import Derived.Test.YtiakcfjbnlibfaaT1
import Derived.ChangeKeysEq
namespace Go.Proofs.Ytiakcfjbnlibfaa.nt
open Go.ChangeShapes Go.WideShapes Go.ChangeAt Go.RowKit
set_option linter.unusedVariables false
set_option linter.unusedSimpArgs false
structure Q1 (s5 s6 : Value) (wa w0 w : World) (P : Nat) (who0 : Nat → Option Nat) (B : Nat) (o : OpC) (gb gr : Nat) (p : Px) (x : Tx) (op : OpR) : Prop where
  ex : ∃ A l, s5 = .pointer (some ⟨A, 0, none⟩) ∧ s6 = .int .i64 op.code ∧ E1 wa w0 w P who0 [(A, boxL l), (B, boxO o)] gb gr p x op l
structure Q2 (s7 s8 : Value) (wa w0 w : World) (P : Nat) (who0 : Nat → Option Nat) (B : Nat) (o : OpC) (gb gr : Nat) (p : Px) (x : Tx) (op : OpR) (A : Nat) (l : LM) : Prop where
  ex : ∃ A2 m, s7 = .pointer (some ⟨A2, 0, none⟩) ∧ s8 = .int .i64 op.code ∧ E2 wa w0 w P who0 [(A2, boxL m), (A, boxL l), (B, boxO o)] gb gr p x op l m
theorem box_cells {w : World} {A : Nat} {l : LM} (h : w.heap[A]? = some (boxL l)) : (w.cell? ⟨A, 0, none⟩ = some (.int .i64 l.f) ∧ w.cell? ⟨A, 1, none⟩ = some (.int .i64 l.t) ∧ w.cell? ⟨A, 2, none⟩ = some (.slice l.d.p l.d.n l.d.c)) ∧ w.frozen? ⟨A, 0, none⟩ = false ∧ w.frozen? ⟨A, 1, none⟩ = false ∧ w.frozen? ⟨A, 2, none⟩ = false := by
  unfold boxL Sl.v at h
  exact ⟨row3 h, frozen_of_row _ _ _ _ _ h, frozen_of_row _ _ _ _ _ h, frozen_of_row _ _ _ _ _ h⟩
set_option maxHeartbeats 8000000 in
set_option maxRecDepth 100000 in
theorem walk_del {wa w : World} {P gb gr : Nat} {o : OpC} {p : Px} {who : Nat → Option Nat} {x : Tx} {op : OpR} {Q : World → Prop} (hk : o.k = 2) (hM : Mid wa w (w.alloc (boxO o)) P who [(w.heap.size, boxO o)] gb gr p who)
    (h1 : ∀ W bs, Mid wa w W P who bs gb gr p who → Calls Try.prog 17 #[.pointer (some ⟨gb, 0, none⟩), .int .i64 o.i] W fun r w' => C1 wa w w' r P who bs gb gr p x op)
    (h2 : ∀ l W bs, E1 wa w W P who bs gb gr p x op l → Calls Try.prog 35 #[.pointer (some ⟨gr, 0, none⟩), .int .i64 o.i] W fun r w' => C2 wa w w' r P who bs gb gr p x op l)
    (h3 : ∀ W bs l m, E2 wa w W P who bs gb gr p x op l m → Calls Try.prog 36 #[.pointer (some ⟨P, 0, none⟩), LM.agg l, .int .i64 op.code, LM.agg m, .int .i64 op.code] W fun r w' => r = .returned (.bool true) ∧ Q w') :
    Calls Try.prog 25 #[.pointer (some ⟨P, 0, none⟩), o.agg] w fun r w' => r = .returned (.bool true) ∧ Q w' := by
  obtain ⟨W1, hW1⟩ : ∃ W1, W1 = w.alloc (boxO o) := ⟨_, rfl⟩
  rw [← hW1] at hM
  have q1 : W1.heap[w.heap.size]? = some (boxO o) := by rw [hW1]; exact heap_alloc_new w (boxO o)
  obtain ⟨x0, _⟩ := rowO q1
  rw [hk] at x0
  have HM := hid hM
  have H1 := hid h1
  have H2 := hid h2
  have H3 := hid h3
  unfold boxO Sl.v at hW1
  unfold OpC.agg Sl.v
  rw [hk] at hW1 ⊢
  clear hM h1 h2 h3 q1
  go_enter Try.func25, Try.ntmps25
  go_upto_region 1 with fail
  rw [← hW1]
  clear hW1
  go_upto_region 5 with fail
  go_cut [5, 6] from 25 to 34 (fun u1 u2 wx => Q1 u1 u2 wa w wx P who w.heap.size o gb gr p x op)
  case first =>
    have HM1 := hid HM.out.drew
    have hSd := HM1.out.sp (B := w.heap.size) (o := o) (by simp)
    clear HM H2 H3
    refine wp_region_held_drew (S := fun X => SP X w.heap.size o P gb gr) (by kernel_rfl) hSd (fun hHeld => ?_)
    generalize W1.drew = wd at *
    refine wpAnyH_take (i := 0) (oi := ⟨some 26, _, _, _, _, _⟩) (v := (.pointer (some ⟨P, 0, none⟩))) rfl (by kernel_rfl) (by kernel_rfl) (by kernel_rfl) (fun _ _ _ h => h) (Or.inl ⟨by rfl, ?_⟩) (by assumption) ?_
    · intro W hSW; obtain ⟨v0, v2, v3, v7, v8⟩ := hSW.out; go_simp
    simp only [Act.put, List.setIfInBounds_toArray, List.set_cons_zero, List.set_cons_succ]
    refine wpAnyH_take (i := 1) (oi := ⟨some 27, _, _, _, _, _⟩) (v := (.pointer (some ⟨P, 0, none⟩))) rfl (by kernel_rfl) (by kernel_rfl) (by kernel_rfl) (fun _ _ _ h => h) (Or.inl ⟨by rfl, ?_⟩) (by assumption) ?_
    · intro W hSW; obtain ⟨v0, v2, v3, v7, v8⟩ := hSW.out; go_simp
    simp only [Act.put, List.setIfInBounds_toArray, List.set_cons_zero, List.set_cons_succ]
    refine wpAnyH_take (i := 2) (oi := ⟨some 28, _, _, _, _, _⟩) (v := (.pointer (some ⟨P, 0, none⟩))) rfl (by kernel_rfl) (by kernel_rfl) (by kernel_rfl) (fun _ _ _ h => h) (Or.inl ⟨by rfl, ?_⟩) (by assumption) ?_
    · intro W hSW; obtain ⟨v0, v2, v3, v7, v8⟩ := hSW.out; go_simp
    simp only [Act.put, List.setIfInBounds_toArray, List.set_cons_zero, List.set_cons_succ]
    refine wpAnyH_take (i := 3) (oi := ⟨some 29, _, _, _, _, _⟩) (v := (.pointer (some ⟨gb, 0, none⟩))) rfl (by kernel_rfl) (by kernel_rfl) (by kernel_rfl) (fun _ _ _ h => h) (Or.inl ⟨by rfl, ?_⟩) (by assumption) ?_
    · intro W hSW; obtain ⟨v0, v2, v3, v7, v8⟩ := hSW.out; go_simp
    simp only [Act.put, List.setIfInBounds_toArray, List.set_cons_zero, List.set_cons_succ]
    refine wpAnyH_take (i := 4) (oi := ⟨some 30, _, _, _, _, _⟩) (v := (.pointer (some ⟨w.heap.size, 2, none⟩))) rfl (by kernel_rfl) (by kernel_rfl) (by kernel_rfl) (fun _ _ _ h => h) (Or.inl ⟨by rfl, ?_⟩) (by assumption) ?_
    · intro W hSW; obtain ⟨v0, v2, v3, v7, v8⟩ := hSW.out; go_simp
    simp only [Act.put, List.setIfInBounds_toArray, List.set_cons_zero, List.set_cons_succ]
    refine wpAnyH_take (i := 5) (oi := ⟨some 31, _, _, _, _, _⟩) (v := (.int .i64 o.i)) rfl (by kernel_rfl) (by kernel_rfl) (by kernel_rfl) (fun _ _ _ h => h) (Or.inl ⟨by rfl, ?_⟩) (by assumption) ?_
    · intro W hSW; obtain ⟨v0, v2, v3, v7, v8⟩ := hSW.out; go_simp
    simp only [Act.put, List.setIfInBounds_toArray, List.set_cons_zero, List.set_cons_succ]
    refine wpAnyH_ready (rs := [6, 10]) (by kernel_rfl) (by simp) ?_
    refine AllReadyH.cons rfl (fun KK hKK => ?_) (AllReadyH.cons rfl (fun KK hKK => ?_) AllReadyH.nil)
    · go_simp
      refine (H1.out _ _ HM1.out).mono ?_
      rintro _ w6 hh
      obtain ⟨l, hr6, hE6⟩ := hh.ex
      unfold LM.agg Sl.v at hr6
      subst hr6
      have HE6 := hid hE6
      have hS6 := hE6.sp (B := w.heap.size) (o := o) (by simp)
      clear hh hE6
      try dsimp only
      refine hKK.out _ _ hS6 (fun hHeld => ?_)
      clear hKK KK
      refine wpAnyH_take (i := 7) (oi := ⟨some 25, _, _, _, _, _⟩) (v := (.tuple #[(.agg #[.int .i64 l.f, .int .i64 l.t, .slice l.d.p l.d.n l.d.c]), (.int .i64 op.code)])) rfl (by kernel_rfl) (by kernel_rfl) (by kernel_rfl) (fun _ _ _ h => h) (Or.inl ⟨by rfl, ?_⟩) (by assumption) ?_
      · intro W hSW; go_simp
      simp only [Act.put, List.setIfInBounds_toArray, List.set_cons_zero, List.set_cons_succ]
      refine wpAnyH_take (i := 8) (oi := ⟨some 33, _, _, _, _, _⟩) (v := (.agg #[.int .i64 l.f, .int .i64 l.t, .slice l.d.p l.d.n l.d.c])) rfl (by kernel_rfl) (by kernel_rfl) (by kernel_rfl) (fun _ _ _ h => h) (Or.inl ⟨by rfl, ?_⟩) (by assumption) ?_
      · intro W hSW; go_simp
      simp only [Act.put, List.setIfInBounds_toArray, List.set_cons_zero, List.set_cons_succ]
      refine wpAnyH_take (i := 9) (oi := ⟨some 34, _, _, _, _, _⟩) (v := (.int .i64 op.code)) rfl (by kernel_rfl) (by kernel_rfl) (by kernel_rfl) (fun _ _ _ h => h) (Or.inl ⟨by rfl, ?_⟩) (by assumption) ?_
      · intro W hSW; go_simp
      simp only [Act.put, List.setIfInBounds_toArray, List.set_cons_zero, List.set_cons_succ]
      obtain ⟨w8, hw8⟩ : ∃ w8, w8 = w6.alloc (boxL LM.z) := ⟨_, rfl⟩
      have HE8 : Hid (E1 wa w w8 P who ((w6.heap.size, (boxL LM.z)) :: [(w.heap.size, boxO o)]) gb gr p x op l) := by rw [hw8]; exact HE6.out.alloc _
      have hS8 := HE8.out.sp (B := w.heap.size) (o := o) (by simp)
      have HBX := hid (HE8.out.box (A := w6.heap.size) (bx := (boxL LM.z)) (by simp))
      obtain ⟨⟨y0, y1, y2⟩, z0, z1, z2⟩ := box_cells HBX.out
      dsimp only [LM.z] at y0 y1 y2
      unfold boxL LM.z Sl.v at hw8
      dsimp only at hw8
      refine wpAnyH_ready (rs := [10]) (by kernel_rfl) (by simp) ?_
      refine AllReadyH.cons rfl (fun KK hKK => ?_) AllReadyH.nil
      go_simp
      rw [← hw8]
      clear hw8 hS6 HE6
      refine hKK.out _ _ hS8 (fun hHeld => ?_)
      clear hKK KK
      refine wpAnyH_ready (rs := [11]) (by kernel_rfl) (by simp) ?_
      refine AllReadyH.cons rfl (fun KK hKK => ?_) AllReadyH.nil
      go_simp
      obtain ⟨a9, q9⟩ := set_box l HBX.out
      obtain ⟨w9, hw9⟩ : ∃ w9, w9 = ((w8.setCell ⟨w6.heap.size, 0, none⟩ (.int .i64 l.f)).setCell ⟨w6.heap.size, 1, none⟩ (.int .i64 l.t)).setCell ⟨w6.heap.size, 2, none⟩ (.slice l.d.p l.d.n l.d.c) := ⟨_, rfl⟩
      rw [← hw9] at a9 q9 ⊢
      have HE9 := hid (HE8.out.set a9 q9)
      have hS9 := HE9.out.sp (B := w.heap.size) (o := o) (by simp)
      clear HE8 a9 q9 hw9 HBX y0 y1 y2 z0 z1 z2
      refine hKK.out _ _ hS9 (fun hHeld => ?_)
      clear hKK KK
      refine wpAnyH_take (i := 12) (oi := ⟨some 6, _, _, _, _, _⟩) (v := (.int .i64 op.code)) rfl (by kernel_rfl) (by kernel_rfl) (by kernel_rfl) (fun _ _ _ h => h) (Or.inl ⟨by rfl, ?_⟩) (by assumption) ?_
      · intro W hSW; go_simp
      simp only [Act.put, List.setIfInBounds_toArray, List.set_cons_zero, List.set_cons_succ]
      refine wpAnyH_done (by kernel_rfl) ?_ _
      go_wp2_with fail
      go_meet
      exact ⟨w6.heap.size, l, rfl, rfl, HE9.out⟩
    · obtain ⟨w7, hw7⟩ : ∃ w7, w7 = wd.alloc (boxL LM.z) := ⟨_, rfl⟩
      have HE7 := hid (HM1.out.alloc (boxL LM.z))
      rw [← hw7] at HE7
      have hS7 := HE7.out.sp (B := w.heap.size) (o := o) (by simp)
      unfold boxL LM.z Sl.v at hw7
      dsimp only at hw7
      go_simp
      rw [← hw7]
      clear hw7
      refine hKK.out _ _ hS7 (fun hHeld => ?_)
      clear hKK KK
      refine wpAnyH_ready (rs := [6]) (by kernel_rfl) (by simp) ?_
      refine AllReadyH.cons rfl (fun KK hKK => ?_) AllReadyH.nil
      go_simp
      refine (H1.out _ _ HE7.out).mono ?_
      rintro _ w8 hh
      obtain ⟨l, hr6, hE8⟩ := hh.ex
      unfold LM.agg Sl.v at hr6
      subst hr6
      have HE8 := hid hE8
      have hS8 := hE8.sp (B := w.heap.size) (o := o) (by simp)
      clear hh hE8 HE7 hS7
      have HBX := hid (HE8.out.box (A := wd.heap.size) (bx := (boxL LM.z)) (by simp))
      obtain ⟨⟨y0, y1, y2⟩, z0, z1, z2⟩ := box_cells HBX.out
      dsimp only [LM.z] at y0 y1 y2
      try dsimp only
      refine hKK.out _ _ hS8 (fun hHeld => ?_)
      clear hKK KK
      refine wpAnyH_take (i := 7) (oi := ⟨some 25, _, _, _, _, _⟩) (v := (.tuple #[(.agg #[.int .i64 l.f, .int .i64 l.t, .slice l.d.p l.d.n l.d.c]), (.int .i64 op.code)])) rfl (by kernel_rfl) (by kernel_rfl) (by kernel_rfl) (fun _ _ _ h => h) (Or.inl ⟨by rfl, ?_⟩) (by assumption) ?_
      · intro W hSW; go_simp
      simp only [Act.put, List.setIfInBounds_toArray, List.set_cons_zero, List.set_cons_succ]
      refine wpAnyH_take (i := 8) (oi := ⟨some 33, _, _, _, _, _⟩) (v := (.agg #[.int .i64 l.f, .int .i64 l.t, .slice l.d.p l.d.n l.d.c])) rfl (by kernel_rfl) (by kernel_rfl) (by kernel_rfl) (fun _ _ _ h => h) (Or.inl ⟨by rfl, ?_⟩) (by assumption) ?_
      · intro W hSW; go_simp
      simp only [Act.put, List.setIfInBounds_toArray, List.set_cons_zero, List.set_cons_succ]
      refine wpAnyH_take (i := 9) (oi := ⟨some 34, _, _, _, _, _⟩) (v := (.int .i64 op.code)) rfl (by kernel_rfl) (by kernel_rfl) (by kernel_rfl) (fun _ _ _ h => h) (Or.inl ⟨by rfl, ?_⟩) (by assumption) ?_
      · intro W hSW; go_simp
      simp only [Act.put, List.setIfInBounds_toArray, List.set_cons_zero, List.set_cons_succ]
      refine wpAnyH_ready (rs := [11]) (by kernel_rfl) (by simp) ?_
      refine AllReadyH.cons rfl (fun KK hKK => ?_) AllReadyH.nil
      go_simp
      obtain ⟨a9, q9⟩ := set_box l HBX.out
      obtain ⟨w9, hw9⟩ : ∃ w9, w9 = ((w8.setCell ⟨wd.heap.size, 0, none⟩ (.int .i64 l.f)).setCell ⟨wd.heap.size, 1, none⟩ (.int .i64 l.t)).setCell ⟨wd.heap.size, 2, none⟩ (.slice l.d.p l.d.n l.d.c) := ⟨_, rfl⟩
      rw [← hw9] at a9 q9 ⊢
      have HE9 := hid (HE8.out.set a9 q9)
      have hS9 := HE9.out.sp (B := w.heap.size) (o := o) (by simp)
      clear HE8 a9 q9 hw9 HBX y0 y1 y2 z0 z1 z2
      refine hKK.out _ _ hS9 (fun hHeld => ?_)
      clear hKK KK
      refine wpAnyH_take (i := 12) (oi := ⟨some 6, _, _, _, _, _⟩) (v := (.int .i64 op.code)) rfl (by kernel_rfl) (by kernel_rfl) (by kernel_rfl) (fun _ _ _ h => h) (Or.inl ⟨by rfl, ?_⟩) (by assumption) ?_
      · intro W hSW; go_simp
      simp only [Act.put, List.setIfInBounds_toArray, List.set_cons_zero, List.set_cons_succ]
      refine wpAnyH_done (by kernel_rfl) ?_ _
      go_wp2_with fail
      go_meet
      exact ⟨wd.heap.size, l, rfl, rfl, HE9.out⟩
  obtain ⟨A1, l, rfl, rfl, hE⟩ := hcut.ex
  clear hcut H1 HM
  have HE := hid hE
  clear hE
  go_upto_region 6 with fail
  go_cut [7, 8] from 35 to 44 (fun u3 u4 wx => Q2 u3 u4 wa w wx P who w.heap.size o gb gr p x op A1 l)
  case first =>
    have HE1 := hid (HE.out.kept (Apart.refl [] wc).drew)
    have hSd := HE1.out.sp (B := w.heap.size) (o := o) (by simp)
    clear HE H3
    refine wp_region_held_drew (S := fun X => SP X w.heap.size o P gb gr) (by kernel_rfl) hSd (fun hHeld => ?_)
    generalize wc.drew = wd at *
    refine wpAnyH_take (i := 0) (oi := ⟨some 36, _, _, _, _, _⟩) (v := (.pointer (some ⟨P, 0, none⟩))) rfl (by kernel_rfl) (by kernel_rfl) (by kernel_rfl) (fun _ _ _ h => h) (Or.inl ⟨by rfl, ?_⟩) (by assumption) ?_
    · intro W hSW; obtain ⟨v0, v2, v3, v7, v8⟩ := hSW.out; go_simp
    simp only [Act.put, List.setIfInBounds_toArray, List.set_cons_zero, List.set_cons_succ]
    refine wpAnyH_take (i := 1) (oi := ⟨some 37, _, _, _, _, _⟩) (v := (.pointer (some ⟨P, 0, none⟩))) rfl (by kernel_rfl) (by kernel_rfl) (by kernel_rfl) (fun _ _ _ h => h) (Or.inl ⟨by rfl, ?_⟩) (by assumption) ?_
    · intro W hSW; obtain ⟨v0, v2, v3, v7, v8⟩ := hSW.out; go_simp
    simp only [Act.put, List.setIfInBounds_toArray, List.set_cons_zero, List.set_cons_succ]
    refine wpAnyH_take (i := 2) (oi := ⟨some 38, _, _, _, _, _⟩) (v := (.pointer (some ⟨P, 1, none⟩))) rfl (by kernel_rfl) (by kernel_rfl) (by kernel_rfl) (fun _ _ _ h => h) (Or.inl ⟨by rfl, ?_⟩) (by assumption) ?_
    · intro W hSW; obtain ⟨v0, v2, v3, v7, v8⟩ := hSW.out; go_simp
    simp only [Act.put, List.setIfInBounds_toArray, List.set_cons_zero, List.set_cons_succ]
    refine wpAnyH_take (i := 3) (oi := ⟨some 39, _, _, _, _, _⟩) (v := (.pointer (some ⟨gr, 0, none⟩))) rfl (by kernel_rfl) (by kernel_rfl) (by kernel_rfl) (fun _ _ _ h => h) (Or.inl ⟨by rfl, ?_⟩) (by assumption) ?_
    · intro W hSW; obtain ⟨v0, v2, v3, v7, v8⟩ := hSW.out; go_simp
    simp only [Act.put, List.setIfInBounds_toArray, List.set_cons_zero, List.set_cons_succ]
    refine wpAnyH_take (i := 4) (oi := ⟨some 40, _, _, _, _, _⟩) (v := (.pointer (some ⟨w.heap.size, 2, none⟩))) rfl (by kernel_rfl) (by kernel_rfl) (by kernel_rfl) (fun _ _ _ h => h) (Or.inl ⟨by rfl, ?_⟩) (by assumption) ?_
    · intro W hSW; obtain ⟨v0, v2, v3, v7, v8⟩ := hSW.out; go_simp
    simp only [Act.put, List.setIfInBounds_toArray, List.set_cons_zero, List.set_cons_succ]
    refine wpAnyH_take (i := 5) (oi := ⟨some 41, _, _, _, _, _⟩) (v := (.int .i64 o.i)) rfl (by kernel_rfl) (by kernel_rfl) (by kernel_rfl) (fun _ _ _ h => h) (Or.inl ⟨by rfl, ?_⟩) (by assumption) ?_
    · intro W hSW; obtain ⟨v0, v2, v3, v7, v8⟩ := hSW.out; go_simp
    simp only [Act.put, List.setIfInBounds_toArray, List.set_cons_zero, List.set_cons_succ]
    refine wpAnyH_ready (rs := [6, 10]) (by kernel_rfl) (by simp) ?_
    refine AllReadyH.cons rfl (fun KK hKK => ?_) (AllReadyH.cons rfl (fun KK hKK => ?_) AllReadyH.nil)
    · go_simp
      refine (H2.out _ _ _ HE1.out).mono ?_
      rintro _ w6 hh
      obtain ⟨m, hr6, hE6⟩ := hh.ex
      unfold LM.agg Sl.v at hr6
      subst hr6
      have HE6 := hid hE6
      have hS6 := hE6.sp (B := w.heap.size) (o := o) (by simp)
      clear hh hE6
      try dsimp only
      refine hKK.out _ _ hS6 (fun hHeld => ?_)
      clear hKK KK
      refine wpAnyH_take (i := 7) (oi := ⟨some 35, _, _, _, _, _⟩) (v := (.tuple #[(.agg #[.int .i64 m.f, .int .i64 m.t, .slice m.d.p m.d.n m.d.c]), (.int .i64 op.code)])) rfl (by kernel_rfl) (by kernel_rfl) (by kernel_rfl) (fun _ _ _ h => h) (Or.inl ⟨by rfl, ?_⟩) (by assumption) ?_
      · intro W hSW; go_simp
      simp only [Act.put, List.setIfInBounds_toArray, List.set_cons_zero, List.set_cons_succ]
      refine wpAnyH_take (i := 8) (oi := ⟨some 43, _, _, _, _, _⟩) (v := (.agg #[.int .i64 m.f, .int .i64 m.t, .slice m.d.p m.d.n m.d.c])) rfl (by kernel_rfl) (by kernel_rfl) (by kernel_rfl) (fun _ _ _ h => h) (Or.inl ⟨by rfl, ?_⟩) (by assumption) ?_
      · intro W hSW; go_simp
      simp only [Act.put, List.setIfInBounds_toArray, List.set_cons_zero, List.set_cons_succ]
      refine wpAnyH_take (i := 9) (oi := ⟨some 44, _, _, _, _, _⟩) (v := (.int .i64 op.code)) rfl (by kernel_rfl) (by kernel_rfl) (by kernel_rfl) (fun _ _ _ h => h) (Or.inl ⟨by rfl, ?_⟩) (by assumption) ?_
      · intro W hSW; go_simp
      simp only [Act.put, List.setIfInBounds_toArray, List.set_cons_zero, List.set_cons_succ]
      obtain ⟨w8, hw8⟩ : ∃ w8, w8 = w6.alloc (boxL LM.z) := ⟨_, rfl⟩
      have HE8 : Hid (E2 wa w w8 P who ((w6.heap.size, (boxL LM.z)) :: [(A1, boxL l), (w.heap.size, boxO o)]) gb gr p x op l m) := by rw [hw8]; exact HE6.out.alloc _
      have hS8 := HE8.out.sp (B := w.heap.size) (o := o) (by simp)
      have HBX := hid (HE8.out.box (A := w6.heap.size) (bx := (boxL LM.z)) (by simp))
      obtain ⟨⟨y0, y1, y2⟩, z0, z1, z2⟩ := box_cells HBX.out
      dsimp only [LM.z] at y0 y1 y2
      unfold boxL LM.z Sl.v at hw8
      dsimp only at hw8
      refine wpAnyH_ready (rs := [10]) (by kernel_rfl) (by simp) ?_
      refine AllReadyH.cons rfl (fun KK hKK => ?_) AllReadyH.nil
      go_simp
      rw [← hw8]
      clear hw8 hS6 HE6
      refine hKK.out _ _ hS8 (fun hHeld => ?_)
      clear hKK KK
      refine wpAnyH_ready (rs := [11]) (by kernel_rfl) (by simp) ?_
      refine AllReadyH.cons rfl (fun KK hKK => ?_) AllReadyH.nil
      go_simp
      obtain ⟨a9, q9⟩ := set_box m HBX.out
      obtain ⟨w9, hw9⟩ : ∃ w9, w9 = ((w8.setCell ⟨w6.heap.size, 0, none⟩ (.int .i64 m.f)).setCell ⟨w6.heap.size, 1, none⟩ (.int .i64 m.t)).setCell ⟨w6.heap.size, 2, none⟩ (.slice m.d.p m.d.n m.d.c) := ⟨_, rfl⟩
      rw [← hw9] at a9 q9 ⊢
      have HE9 := hid (HE8.out.set a9 q9)
      have hS9 := HE9.out.sp (B := w.heap.size) (o := o) (by simp)
      clear HE8 a9 q9 hw9 HBX y0 y1 y2 z0 z1 z2
      refine hKK.out _ _ hS9 (fun hHeld => ?_)
      clear hKK KK
      refine wpAnyH_take (i := 12) (oi := ⟨some 8, _, _, _, _, _⟩) (v := (.int .i64 op.code)) rfl (by kernel_rfl) (by kernel_rfl) (by kernel_rfl) (fun _ _ _ h => h) (Or.inl ⟨by rfl, ?_⟩) (by assumption) ?_
      · intro W hSW; go_simp
      simp only [Act.put, List.setIfInBounds_toArray, List.set_cons_zero, List.set_cons_succ]
      refine wpAnyH_done (by kernel_rfl) ?_ _
      go_wp2_with fail
      go_meet
      exact ⟨w6.heap.size, m, rfl, rfl, HE9.out⟩
    · obtain ⟨w7, hw7⟩ : ∃ w7, w7 = wd.alloc (boxL LM.z) := ⟨_, rfl⟩
      have HE7 := hid (HE1.out.alloc (boxL LM.z))
      rw [← hw7] at HE7
      have hS7 := HE7.out.sp (B := w.heap.size) (o := o) (by simp)
      unfold boxL LM.z Sl.v at hw7
      dsimp only at hw7
      go_simp
      rw [← hw7]
      clear hw7
      refine hKK.out _ _ hS7 (fun hHeld => ?_)
      clear hKK KK
      refine wpAnyH_ready (rs := [6]) (by kernel_rfl) (by simp) ?_
      refine AllReadyH.cons rfl (fun KK hKK => ?_) AllReadyH.nil
      go_simp
      refine (H2.out _ _ _ HE7.out).mono ?_
      rintro _ w8 hh
      obtain ⟨m, hr6, hE8⟩ := hh.ex
      unfold LM.agg Sl.v at hr6
      subst hr6
      have HE8 := hid hE8
      have hS8 := hE8.sp (B := w.heap.size) (o := o) (by simp)
      clear hh hE8 HE7 hS7
      have HBX := hid (HE8.out.box (A := wd.heap.size) (bx := (boxL LM.z)) (by simp))
      obtain ⟨⟨y0, y1, y2⟩, z0, z1, z2⟩ := box_cells HBX.out
      dsimp only [LM.z] at y0 y1 y2
      try dsimp only
      refine hKK.out _ _ hS8 (fun hHeld => ?_)
      clear hKK KK
      refine wpAnyH_take (i := 7) (oi := ⟨some 35, _, _, _, _, _⟩) (v := (.tuple #[(.agg #[.int .i64 m.f, .int .i64 m.t, .slice m.d.p m.d.n m.d.c]), (.int .i64 op.code)])) rfl (by kernel_rfl) (by kernel_rfl) (by kernel_rfl) (fun _ _ _ h => h) (Or.inl ⟨by rfl, ?_⟩) (by assumption) ?_
      · intro W hSW; go_simp
      simp only [Act.put, List.setIfInBounds_toArray, List.set_cons_zero, List.set_cons_succ]
      refine wpAnyH_take (i := 8) (oi := ⟨some 43, _, _, _, _, _⟩) (v := (.agg #[.int .i64 m.f, .int .i64 m.t, .slice m.d.p m.d.n m.d.c])) rfl (by kernel_rfl) (by kernel_rfl) (by kernel_rfl) (fun _ _ _ h => h) (Or.inl ⟨by rfl, ?_⟩) (by assumption) ?_
      · intro W hSW; go_simp
      simp only [Act.put, List.setIfInBounds_toArray, List.set_cons_zero, List.set_cons_succ]
      refine wpAnyH_take (i := 9) (oi := ⟨some 44, _, _, _, _, _⟩) (v := (.int .i64 op.code)) rfl (by kernel_rfl) (by kernel_rfl) (by kernel_rfl) (fun _ _ _ h => h) (Or.inl ⟨by rfl, ?_⟩) (by assumption) ?_
      · intro W hSW; go_simp
      simp only [Act.put, List.setIfInBounds_toArray, List.set_cons_zero, List.set_cons_succ]
      refine wpAnyH_ready (rs := [11]) (by kernel_rfl) (by simp) ?_
      refine AllReadyH.cons rfl (fun KK hKK => ?_) AllReadyH.nil
      go_simp
      obtain ⟨a9, q9⟩ := set_box m HBX.out
      obtain ⟨w9, hw9⟩ : ∃ w9, w9 = ((w8.setCell ⟨wd.heap.size, 0, none⟩ (.int .i64 m.f)).setCell ⟨wd.heap.size, 1, none⟩ (.int .i64 m.t)).setCell ⟨wd.heap.size, 2, none⟩ (.slice m.d.p m.d.n m.d.c) := ⟨_, rfl⟩
      rw [← hw9] at a9 q9 ⊢
      have HE9 := hid (HE8.out.set a9 q9)
      have hS9 := HE9.out.sp (B := w.heap.size) (o := o) (by simp)
      clear HE8 a9 q9 hw9 HBX y0 y1 y2 z0 z1 z2
      refine hKK.out _ _ hS9 (fun hHeld => ?_)
      clear hKK KK
      refine wpAnyH_take (i := 12) (oi := ⟨some 8, _, _, _, _, _⟩) (v := (.int .i64 op.code)) rfl (by kernel_rfl) (by kernel_rfl) (by kernel_rfl) (fun _ _ _ h => h) (Or.inl ⟨by rfl, ?_⟩) (by assumption) ?_
      · intro W hSW; go_simp
      simp only [Act.put, List.setIfInBounds_toArray, List.set_cons_zero, List.set_cons_succ]
      refine wpAnyH_done (by kernel_rfl) ?_ _
      go_wp2_with fail
      go_meet
      exact ⟨wd.heap.size, m, rfl, rfl, HE9.out⟩
  obtain ⟨A2, m, rfl, rfl, hE2⟩ := hcut.ex
  clear hcut H2 HE
  obtain ⟨⟨y0, y1, y2⟩, _⟩ := box_cells (hE2.box (A := A1) (bx := boxL l) (by simp))
  obtain ⟨⟨y3, y4, y5⟩, _⟩ := box_cells (hE2.box (A := A2) (bx := boxL m) (by simp))
  have hc3 := H3.out _ _ _ _ hE2
  unfold LM.agg Sl.v at hc3
  clear hE2 H3
  go_wp2_with fail
  refine hc3.mono ?_
  clear hc3
  rintro _ w9 ⟨rfl, hQ⟩
  have HQ := hid hQ
  clear hQ
  dsimp only
  go_wp2
  go_ret
  exact ⟨rfl, HQ.out⟩
set_option maxHeartbeats 8000000 in
set_option maxRecDepth 100000 in
theorem walk_at {wa w : World} {P gb gr : Nat} {o : OpC} {p : Px} {who : Nat → Option Nat} {x : Tx} {op : OpR} {Q : World → Prop} (hk : o.k = 7) (hM : Mid wa w (w.alloc (boxO o)) P who [(w.heap.size, boxO o)] gb gr p who)
    (h1 : ∀ W bs, Mid wa w W P who bs gb gr p who → Calls Try.prog 15 #[.pointer (some ⟨gb, 0, none⟩), .int .i64 o.i] W fun r w' => C1 wa w w' r P who bs gb gr p x op)
    (h2 : ∀ l W bs, E1 wa w W P who bs gb gr p x op l → Calls Try.prog 40 #[.pointer (some ⟨gr, 0, none⟩), .int .i64 o.i] W fun r w' => C2 wa w w' r P who bs gb gr p x op l)
    (h3 : ∀ W bs l m, E2 wa w W P who bs gb gr p x op l m → Calls Try.prog 36 #[.pointer (some ⟨P, 0, none⟩), LM.agg l, .int .i64 op.code, LM.agg m, .int .i64 op.code] W fun r w' => r = .returned (.bool true) ∧ Q w') :
    Calls Try.prog 25 #[.pointer (some ⟨P, 0, none⟩), o.agg] w fun r w' => r = .returned (.bool true) ∧ Q w' := by
  obtain ⟨W1, hW1⟩ : ∃ W1, W1 = w.alloc (boxO o) := ⟨_, rfl⟩
  rw [← hW1] at hM
  have q1 : W1.heap[w.heap.size]? = some (boxO o) := by rw [hW1]; exact heap_alloc_new w (boxO o)
  obtain ⟨x0, _⟩ := rowO q1
  rw [hk] at x0
  have HM := hid hM
  have H1 := hid h1
  have H2 := hid h2
  have H3 := hid h3
  unfold boxO Sl.v at hW1
  unfold OpC.agg Sl.v
  rw [hk] at hW1 ⊢
  clear hM h1 h2 h3 q1
  go_enter Try.func25, Try.ntmps25
  go_upto_region 1 with fail
  rw [← hW1]
  clear hW1
  go_upto_region 17 with fail
  go_cut [9, 10] from 127 to 136 (fun u1 u2 wx => Q1 u1 u2 wa w wx P who w.heap.size o gb gr p x op)
  case first =>
    have HM1 := hid HM.out.drew
    have hSd := HM1.out.sp (B := w.heap.size) (o := o) (by simp)
    clear HM H2 H3
    refine wp_region_held_drew (S := fun X => SP X w.heap.size o P gb gr) (by kernel_rfl) hSd (fun hHeld => ?_)
    generalize W1.drew = wd at *
    refine wpAnyH_take (i := 0) (oi := ⟨some 128, _, _, _, _, _⟩) (v := (.pointer (some ⟨P, 0, none⟩))) rfl (by kernel_rfl) (by kernel_rfl) (by kernel_rfl) (fun _ _ _ h => h) (Or.inl ⟨by rfl, ?_⟩) (by assumption) ?_
    · intro W hSW; obtain ⟨v0, v2, v3, v7, v8⟩ := hSW.out; go_simp
    simp only [Act.put, List.setIfInBounds_toArray, List.set_cons_zero, List.set_cons_succ]
    refine wpAnyH_take (i := 1) (oi := ⟨some 129, _, _, _, _, _⟩) (v := (.pointer (some ⟨P, 0, none⟩))) rfl (by kernel_rfl) (by kernel_rfl) (by kernel_rfl) (fun _ _ _ h => h) (Or.inl ⟨by rfl, ?_⟩) (by assumption) ?_
    · intro W hSW; obtain ⟨v0, v2, v3, v7, v8⟩ := hSW.out; go_simp
    simp only [Act.put, List.setIfInBounds_toArray, List.set_cons_zero, List.set_cons_succ]
    refine wpAnyH_take (i := 2) (oi := ⟨some 130, _, _, _, _, _⟩) (v := (.pointer (some ⟨P, 0, none⟩))) rfl (by kernel_rfl) (by kernel_rfl) (by kernel_rfl) (fun _ _ _ h => h) (Or.inl ⟨by rfl, ?_⟩) (by assumption) ?_
    · intro W hSW; obtain ⟨v0, v2, v3, v7, v8⟩ := hSW.out; go_simp
    simp only [Act.put, List.setIfInBounds_toArray, List.set_cons_zero, List.set_cons_succ]
    refine wpAnyH_take (i := 3) (oi := ⟨some 131, _, _, _, _, _⟩) (v := (.pointer (some ⟨gb, 0, none⟩))) rfl (by kernel_rfl) (by kernel_rfl) (by kernel_rfl) (fun _ _ _ h => h) (Or.inl ⟨by rfl, ?_⟩) (by assumption) ?_
    · intro W hSW; obtain ⟨v0, v2, v3, v7, v8⟩ := hSW.out; go_simp
    simp only [Act.put, List.setIfInBounds_toArray, List.set_cons_zero, List.set_cons_succ]
    refine wpAnyH_take (i := 4) (oi := ⟨some 132, _, _, _, _, _⟩) (v := (.pointer (some ⟨w.heap.size, 2, none⟩))) rfl (by kernel_rfl) (by kernel_rfl) (by kernel_rfl) (fun _ _ _ h => h) (Or.inl ⟨by rfl, ?_⟩) (by assumption) ?_
    · intro W hSW; obtain ⟨v0, v2, v3, v7, v8⟩ := hSW.out; go_simp
    simp only [Act.put, List.setIfInBounds_toArray, List.set_cons_zero, List.set_cons_succ]
    refine wpAnyH_take (i := 5) (oi := ⟨some 133, _, _, _, _, _⟩) (v := (.int .i64 o.i)) rfl (by kernel_rfl) (by kernel_rfl) (by kernel_rfl) (fun _ _ _ h => h) (Or.inl ⟨by rfl, ?_⟩) (by assumption) ?_
    · intro W hSW; obtain ⟨v0, v2, v3, v7, v8⟩ := hSW.out; go_simp
    simp only [Act.put, List.setIfInBounds_toArray, List.set_cons_zero, List.set_cons_succ]
    refine wpAnyH_ready (rs := [6, 10]) (by kernel_rfl) (by simp) ?_
    refine AllReadyH.cons rfl (fun KK hKK => ?_) (AllReadyH.cons rfl (fun KK hKK => ?_) AllReadyH.nil)
    · go_simp
      refine (H1.out _ _ HM1.out).mono ?_
      rintro _ w6 hh
      obtain ⟨l, hr6, hE6⟩ := hh.ex
      unfold LM.agg Sl.v at hr6
      subst hr6
      have HE6 := hid hE6
      have hS6 := hE6.sp (B := w.heap.size) (o := o) (by simp)
      clear hh hE6
      try dsimp only
      refine hKK.out _ _ hS6 (fun hHeld => ?_)
      clear hKK KK
      refine wpAnyH_take (i := 7) (oi := ⟨some 127, _, _, _, _, _⟩) (v := (.tuple #[(.agg #[.int .i64 l.f, .int .i64 l.t, .slice l.d.p l.d.n l.d.c]), (.int .i64 op.code)])) rfl (by kernel_rfl) (by kernel_rfl) (by kernel_rfl) (fun _ _ _ h => h) (Or.inl ⟨by rfl, ?_⟩) (by assumption) ?_
      · intro W hSW; go_simp
      simp only [Act.put, List.setIfInBounds_toArray, List.set_cons_zero, List.set_cons_succ]
      refine wpAnyH_take (i := 8) (oi := ⟨some 135, _, _, _, _, _⟩) (v := (.agg #[.int .i64 l.f, .int .i64 l.t, .slice l.d.p l.d.n l.d.c])) rfl (by kernel_rfl) (by kernel_rfl) (by kernel_rfl) (fun _ _ _ h => h) (Or.inl ⟨by rfl, ?_⟩) (by assumption) ?_
      · intro W hSW; go_simp
      simp only [Act.put, List.setIfInBounds_toArray, List.set_cons_zero, List.set_cons_succ]
      refine wpAnyH_take (i := 9) (oi := ⟨some 136, _, _, _, _, _⟩) (v := (.int .i64 op.code)) rfl (by kernel_rfl) (by kernel_rfl) (by kernel_rfl) (fun _ _ _ h => h) (Or.inl ⟨by rfl, ?_⟩) (by assumption) ?_
      · intro W hSW; go_simp
      simp only [Act.put, List.setIfInBounds_toArray, List.set_cons_zero, List.set_cons_succ]
      obtain ⟨w8, hw8⟩ : ∃ w8, w8 = w6.alloc (boxL LM.z) := ⟨_, rfl⟩
      have HE8 : Hid (E1 wa w w8 P who ((w6.heap.size, (boxL LM.z)) :: [(w.heap.size, boxO o)]) gb gr p x op l) := by rw [hw8]; exact HE6.out.alloc _
      have hS8 := HE8.out.sp (B := w.heap.size) (o := o) (by simp)
      have HBX := hid (HE8.out.box (A := w6.heap.size) (bx := (boxL LM.z)) (by simp))
      obtain ⟨⟨y0, y1, y2⟩, z0, z1, z2⟩ := box_cells HBX.out
      dsimp only [LM.z] at y0 y1 y2
      unfold boxL LM.z Sl.v at hw8
      dsimp only at hw8
      refine wpAnyH_ready (rs := [10]) (by kernel_rfl) (by simp) ?_
      refine AllReadyH.cons rfl (fun KK hKK => ?_) AllReadyH.nil
      go_simp
      rw [← hw8]
      clear hw8 hS6 HE6
      refine hKK.out _ _ hS8 (fun hHeld => ?_)
      clear hKK KK
      refine wpAnyH_ready (rs := [11]) (by kernel_rfl) (by simp) ?_
      refine AllReadyH.cons rfl (fun KK hKK => ?_) AllReadyH.nil
      go_simp
      obtain ⟨a9, q9⟩ := set_box l HBX.out
      obtain ⟨w9, hw9⟩ : ∃ w9, w9 = ((w8.setCell ⟨w6.heap.size, 0, none⟩ (.int .i64 l.f)).setCell ⟨w6.heap.size, 1, none⟩ (.int .i64 l.t)).setCell ⟨w6.heap.size, 2, none⟩ (.slice l.d.p l.d.n l.d.c) := ⟨_, rfl⟩
      rw [← hw9] at a9 q9 ⊢
      have HE9 := hid (HE8.out.set a9 q9)
      have hS9 := HE9.out.sp (B := w.heap.size) (o := o) (by simp)
      clear HE8 a9 q9 hw9 HBX y0 y1 y2 z0 z1 z2
      refine hKK.out _ _ hS9 (fun hHeld => ?_)
      clear hKK KK
      refine wpAnyH_take (i := 12) (oi := ⟨some 10, _, _, _, _, _⟩) (v := (.int .i64 op.code)) rfl (by kernel_rfl) (by kernel_rfl) (by kernel_rfl) (fun _ _ _ h => h) (Or.inl ⟨by rfl, ?_⟩) (by assumption) ?_
      · intro W hSW; go_simp
      simp only [Act.put, List.setIfInBounds_toArray, List.set_cons_zero, List.set_cons_succ]
      refine wpAnyH_done (by kernel_rfl) ?_ _
      go_wp2_with fail
      go_meet
      exact ⟨w6.heap.size, l, rfl, rfl, HE9.out⟩
    · obtain ⟨w7, hw7⟩ : ∃ w7, w7 = wd.alloc (boxL LM.z) := ⟨_, rfl⟩
      have HE7 := hid (HM1.out.alloc (boxL LM.z))
      rw [← hw7] at HE7
      have hS7 := HE7.out.sp (B := w.heap.size) (o := o) (by simp)
      unfold boxL LM.z Sl.v at hw7
      dsimp only at hw7
      go_simp
      rw [← hw7]
      clear hw7
      refine hKK.out _ _ hS7 (fun hHeld => ?_)
      clear hKK KK
      refine wpAnyH_ready (rs := [6]) (by kernel_rfl) (by simp) ?_
      refine AllReadyH.cons rfl (fun KK hKK => ?_) AllReadyH.nil
      go_simp
      refine (H1.out _ _ HE7.out).mono ?_
      rintro _ w8 hh
      obtain ⟨l, hr6, hE8⟩ := hh.ex
      unfold LM.agg Sl.v at hr6
      subst hr6
      have HE8 := hid hE8
      have hS8 := hE8.sp (B := w.heap.size) (o := o) (by simp)
      clear hh hE8 HE7 hS7
      have HBX := hid (HE8.out.box (A := wd.heap.size) (bx := (boxL LM.z)) (by simp))
      obtain ⟨⟨y0, y1, y2⟩, z0, z1, z2⟩ := box_cells HBX.out
      dsimp only [LM.z] at y0 y1 y2
      try dsimp only
      refine hKK.out _ _ hS8 (fun hHeld => ?_)
      clear hKK KK
      refine wpAnyH_take (i := 7) (oi := ⟨some 127, _, _, _, _, _⟩) (v := (.tuple #[(.agg #[.int .i64 l.f, .int .i64 l.t, .slice l.d.p l.d.n l.d.c]), (.int .i64 op.code)])) rfl (by kernel_rfl) (by kernel_rfl) (by kernel_rfl) (fun _ _ _ h => h) (Or.inl ⟨by rfl, ?_⟩) (by assumption) ?_
      · intro W hSW; go_simp
      simp only [Act.put, List.setIfInBounds_toArray, List.set_cons_zero, List.set_cons_succ]
      refine wpAnyH_take (i := 8) (oi := ⟨some 135, _, _, _, _, _⟩) (v := (.agg #[.int .i64 l.f, .int .i64 l.t, .slice l.d.p l.d.n l.d.c])) rfl (by kernel_rfl) (by kernel_rfl) (by kernel_rfl) (fun _ _ _ h => h) (Or.inl ⟨by rfl, ?_⟩) (by assumption) ?_
      · intro W hSW; go_simp
      simp only [Act.put, List.setIfInBounds_toArray, List.set_cons_zero, List.set_cons_succ]
      refine wpAnyH_take (i := 9) (oi := ⟨some 136, _, _, _, _, _⟩) (v := (.int .i64 op.code)) rfl (by kernel_rfl) (by kernel_rfl) (by kernel_rfl) (fun _ _ _ h => h) (Or.inl ⟨by rfl, ?_⟩) (by assumption) ?_
      · intro W hSW; go_simp
      simp only [Act.put, List.setIfInBounds_toArray, List.set_cons_zero, List.set_cons_succ]
      refine wpAnyH_ready (rs := [11]) (by kernel_rfl) (by simp) ?_
      refine AllReadyH.cons rfl (fun KK hKK => ?_) AllReadyH.nil
      go_simp
      obtain ⟨a9, q9⟩ := set_box l HBX.out
      obtain ⟨w9, hw9⟩ : ∃ w9, w9 = ((w8.setCell ⟨wd.heap.size, 0, none⟩ (.int .i64 l.f)).setCell ⟨wd.heap.size, 1, none⟩ (.int .i64 l.t)).setCell ⟨wd.heap.size, 2, none⟩ (.slice l.d.p l.d.n l.d.c) := ⟨_, rfl⟩
      rw [← hw9] at a9 q9 ⊢
      have HE9 := hid (HE8.out.set a9 q9)
      have hS9 := HE9.out.sp (B := w.heap.size) (o := o) (by simp)
      clear HE8 a9 q9 hw9 HBX y0 y1 y2 z0 z1 z2
      refine hKK.out _ _ hS9 (fun hHeld => ?_)
      clear hKK KK
      refine wpAnyH_take (i := 12) (oi := ⟨some 10, _, _, _, _, _⟩) (v := (.int .i64 op.code)) rfl (by kernel_rfl) (by kernel_rfl) (by kernel_rfl) (fun _ _ _ h => h) (Or.inl ⟨by rfl, ?_⟩) (by assumption) ?_
      · intro W hSW; go_simp
      simp only [Act.put, List.setIfInBounds_toArray, List.set_cons_zero, List.set_cons_succ]
      refine wpAnyH_done (by kernel_rfl) ?_ _
      go_wp2_with fail
      go_meet
      exact ⟨wd.heap.size, l, rfl, rfl, HE9.out⟩
  obtain ⟨A1, l, rfl, rfl, hE⟩ := hcut.ex
  clear hcut H1 HM
  have HE := hid hE
  clear hE
  go_upto_region 18 with fail
  go_cut [11, 12] from 137 to 146 (fun u3 u4 wx => Q2 u3 u4 wa w wx P who w.heap.size o gb gr p x op A1 l)
  case first =>
    have HE1 := hid (HE.out.kept (Apart.refl [] wc).drew)
    have hSd := HE1.out.sp (B := w.heap.size) (o := o) (by simp)
    clear HE H3
    refine wp_region_held_drew (S := fun X => SP X w.heap.size o P gb gr) (by kernel_rfl) hSd (fun hHeld => ?_)
    generalize wc.drew = wd at *
    refine wpAnyH_take (i := 0) (oi := ⟨some 138, _, _, _, _, _⟩) (v := (.pointer (some ⟨P, 0, none⟩))) rfl (by kernel_rfl) (by kernel_rfl) (by kernel_rfl) (fun _ _ _ h => h) (Or.inl ⟨by rfl, ?_⟩) (by assumption) ?_
    · intro W hSW; obtain ⟨v0, v2, v3, v7, v8⟩ := hSW.out; go_simp
    simp only [Act.put, List.setIfInBounds_toArray, List.set_cons_zero, List.set_cons_succ]
    refine wpAnyH_take (i := 1) (oi := ⟨some 139, _, _, _, _, _⟩) (v := (.pointer (some ⟨P, 0, none⟩))) rfl (by kernel_rfl) (by kernel_rfl) (by kernel_rfl) (fun _ _ _ h => h) (Or.inl ⟨by rfl, ?_⟩) (by assumption) ?_
    · intro W hSW; obtain ⟨v0, v2, v3, v7, v8⟩ := hSW.out; go_simp
    simp only [Act.put, List.setIfInBounds_toArray, List.set_cons_zero, List.set_cons_succ]
    refine wpAnyH_take (i := 2) (oi := ⟨some 140, _, _, _, _, _⟩) (v := (.pointer (some ⟨P, 1, none⟩))) rfl (by kernel_rfl) (by kernel_rfl) (by kernel_rfl) (fun _ _ _ h => h) (Or.inl ⟨by rfl, ?_⟩) (by assumption) ?_
    · intro W hSW; obtain ⟨v0, v2, v3, v7, v8⟩ := hSW.out; go_simp
    simp only [Act.put, List.setIfInBounds_toArray, List.set_cons_zero, List.set_cons_succ]
    refine wpAnyH_take (i := 3) (oi := ⟨some 141, _, _, _, _, _⟩) (v := (.pointer (some ⟨gr, 0, none⟩))) rfl (by kernel_rfl) (by kernel_rfl) (by kernel_rfl) (fun _ _ _ h => h) (Or.inl ⟨by rfl, ?_⟩) (by assumption) ?_
    · intro W hSW; obtain ⟨v0, v2, v3, v7, v8⟩ := hSW.out; go_simp
    simp only [Act.put, List.setIfInBounds_toArray, List.set_cons_zero, List.set_cons_succ]
    refine wpAnyH_take (i := 4) (oi := ⟨some 142, _, _, _, _, _⟩) (v := (.pointer (some ⟨w.heap.size, 2, none⟩))) rfl (by kernel_rfl) (by kernel_rfl) (by kernel_rfl) (fun _ _ _ h => h) (Or.inl ⟨by rfl, ?_⟩) (by assumption) ?_
    · intro W hSW; obtain ⟨v0, v2, v3, v7, v8⟩ := hSW.out; go_simp
    simp only [Act.put, List.setIfInBounds_toArray, List.set_cons_zero, List.set_cons_succ]
    refine wpAnyH_take (i := 5) (oi := ⟨some 143, _, _, _, _, _⟩) (v := (.int .i64 o.i)) rfl (by kernel_rfl) (by kernel_rfl) (by kernel_rfl) (fun _ _ _ h => h) (Or.inl ⟨by rfl, ?_⟩) (by assumption) ?_
    · intro W hSW; obtain ⟨v0, v2, v3, v7, v8⟩ := hSW.out; go_simp
    simp only [Act.put, List.setIfInBounds_toArray, List.set_cons_zero, List.set_cons_succ]
    refine wpAnyH_ready (rs := [6, 10]) (by kernel_rfl) (by simp) ?_
    refine AllReadyH.cons rfl (fun KK hKK => ?_) (AllReadyH.cons rfl (fun KK hKK => ?_) AllReadyH.nil)
    · go_simp
      refine (H2.out _ _ _ HE1.out).mono ?_
      rintro _ w6 hh
      obtain ⟨m, hr6, hE6⟩ := hh.ex
      unfold LM.agg Sl.v at hr6
      subst hr6
      have HE6 := hid hE6
      have hS6 := hE6.sp (B := w.heap.size) (o := o) (by simp)
      clear hh hE6
      try dsimp only
      refine hKK.out _ _ hS6 (fun hHeld => ?_)
      clear hKK KK
      refine wpAnyH_take (i := 7) (oi := ⟨some 137, _, _, _, _, _⟩) (v := (.tuple #[(.agg #[.int .i64 m.f, .int .i64 m.t, .slice m.d.p m.d.n m.d.c]), (.int .i64 op.code)])) rfl (by kernel_rfl) (by kernel_rfl) (by kernel_rfl) (fun _ _ _ h => h) (Or.inl ⟨by rfl, ?_⟩) (by assumption) ?_
      · intro W hSW; go_simp
      simp only [Act.put, List.setIfInBounds_toArray, List.set_cons_zero, List.set_cons_succ]
      refine wpAnyH_take (i := 8) (oi := ⟨some 145, _, _, _, _, _⟩) (v := (.agg #[.int .i64 m.f, .int .i64 m.t, .slice m.d.p m.d.n m.d.c])) rfl (by kernel_rfl) (by kernel_rfl) (by kernel_rfl) (fun _ _ _ h => h) (Or.inl ⟨by rfl, ?_⟩) (by assumption) ?_
      · intro W hSW; go_simp
      simp only [Act.put, List.setIfInBounds_toArray, List.set_cons_zero, List.set_cons_succ]
      refine wpAnyH_take (i := 9) (oi := ⟨some 146, _, _, _, _, _⟩) (v := (.int .i64 op.code)) rfl (by kernel_rfl) (by kernel_rfl) (by kernel_rfl) (fun _ _ _ h => h) (Or.inl ⟨by rfl, ?_⟩) (by assumption) ?_
      · intro W hSW; go_simp
      simp only [Act.put, List.setIfInBounds_toArray, List.set_cons_zero, List.set_cons_succ]
      obtain ⟨w8, hw8⟩ : ∃ w8, w8 = w6.alloc (boxL LM.z) := ⟨_, rfl⟩
      have HE8 : Hid (E2 wa w w8 P who ((w6.heap.size, (boxL LM.z)) :: [(A1, boxL l), (w.heap.size, boxO o)]) gb gr p x op l m) := by rw [hw8]; exact HE6.out.alloc _
      have hS8 := HE8.out.sp (B := w.heap.size) (o := o) (by simp)
      have HBX := hid (HE8.out.box (A := w6.heap.size) (bx := (boxL LM.z)) (by simp))
      obtain ⟨⟨y0, y1, y2⟩, z0, z1, z2⟩ := box_cells HBX.out
      dsimp only [LM.z] at y0 y1 y2
      unfold boxL LM.z Sl.v at hw8
      dsimp only at hw8
      refine wpAnyH_ready (rs := [10]) (by kernel_rfl) (by simp) ?_
      refine AllReadyH.cons rfl (fun KK hKK => ?_) AllReadyH.nil
      go_simp
      rw [← hw8]
      clear hw8 hS6 HE6
      refine hKK.out _ _ hS8 (fun hHeld => ?_)
      clear hKK KK
      refine wpAnyH_ready (rs := [11]) (by kernel_rfl) (by simp) ?_
      refine AllReadyH.cons rfl (fun KK hKK => ?_) AllReadyH.nil
      go_simp
      obtain ⟨a9, q9⟩ := set_box m HBX.out
      obtain ⟨w9, hw9⟩ : ∃ w9, w9 = ((w8.setCell ⟨w6.heap.size, 0, none⟩ (.int .i64 m.f)).setCell ⟨w6.heap.size, 1, none⟩ (.int .i64 m.t)).setCell ⟨w6.heap.size, 2, none⟩ (.slice m.d.p m.d.n m.d.c) := ⟨_, rfl⟩
      rw [← hw9] at a9 q9 ⊢
      have HE9 := hid (HE8.out.set a9 q9)
      have hS9 := HE9.out.sp (B := w.heap.size) (o := o) (by simp)
      clear HE8 a9 q9 hw9 HBX y0 y1 y2 z0 z1 z2
      refine hKK.out _ _ hS9 (fun hHeld => ?_)
      clear hKK KK
      refine wpAnyH_take (i := 12) (oi := ⟨some 12, _, _, _, _, _⟩) (v := (.int .i64 op.code)) rfl (by kernel_rfl) (by kernel_rfl) (by kernel_rfl) (fun _ _ _ h => h) (Or.inl ⟨by rfl, ?_⟩) (by assumption) ?_
      · intro W hSW; go_simp
      simp only [Act.put, List.setIfInBounds_toArray, List.set_cons_zero, List.set_cons_succ]
      refine wpAnyH_done (by kernel_rfl) ?_ _
      go_wp2_with fail
      go_meet
      exact ⟨w6.heap.size, m, rfl, rfl, HE9.out⟩
    · obtain ⟨w7, hw7⟩ : ∃ w7, w7 = wd.alloc (boxL LM.z) := ⟨_, rfl⟩
      have HE7 := hid (HE1.out.alloc (boxL LM.z))
      rw [← hw7] at HE7
      have hS7 := HE7.out.sp (B := w.heap.size) (o := o) (by simp)
      unfold boxL LM.z Sl.v at hw7
      dsimp only at hw7
      go_simp
      rw [← hw7]
      clear hw7
      refine hKK.out _ _ hS7 (fun hHeld => ?_)
      clear hKK KK
      refine wpAnyH_ready (rs := [6]) (by kernel_rfl) (by simp) ?_
      refine AllReadyH.cons rfl (fun KK hKK => ?_) AllReadyH.nil
      go_simp
      refine (H2.out _ _ _ HE7.out).mono ?_
      rintro _ w8 hh
      obtain ⟨m, hr6, hE8⟩ := hh.ex
      unfold LM.agg Sl.v at hr6
      subst hr6
      have HE8 := hid hE8
      have hS8 := hE8.sp (B := w.heap.size) (o := o) (by simp)
      clear hh hE8 HE7 hS7
      have HBX := hid (HE8.out.box (A := wd.heap.size) (bx := (boxL LM.z)) (by simp))
      obtain ⟨⟨y0, y1, y2⟩, z0, z1, z2⟩ := box_cells HBX.out
      dsimp only [LM.z] at y0 y1 y2
      try dsimp only
      refine hKK.out _ _ hS8 (fun hHeld => ?_)
      clear hKK KK
      refine wpAnyH_take (i := 7) (oi := ⟨some 137, _, _, _, _, _⟩) (v := (.tuple #[(.agg #[.int .i64 m.f, .int .i64 m.t, .slice m.d.p m.d.n m.d.c]), (.int .i64 op.code)])) rfl (by kernel_rfl) (by kernel_rfl) (by kernel_rfl) (fun _ _ _ h => h) (Or.inl ⟨by rfl, ?_⟩) (by assumption) ?_
      · intro W hSW; go_simp
      simp only [Act.put, List.setIfInBounds_toArray, List.set_cons_zero, List.set_cons_succ]
      refine wpAnyH_take (i := 8) (oi := ⟨some 145, _, _, _, _, _⟩) (v := (.agg #[.int .i64 m.f, .int .i64 m.t, .slice m.d.p m.d.n m.d.c])) rfl (by kernel_rfl) (by kernel_rfl) (by kernel_rfl) (fun _ _ _ h => h) (Or.inl ⟨by rfl, ?_⟩) (by assumption) ?_
      · intro W hSW; go_simp
      simp only [Act.put, List.setIfInBounds_toArray, List.set_cons_zero, List.set_cons_succ]
      refine wpAnyH_take (i := 9) (oi := ⟨some 146, _, _, _, _, _⟩) (v := (.int .i64 op.code)) rfl (by kernel_rfl) (by kernel_rfl) (by kernel_rfl) (fun _ _ _ h => h) (Or.inl ⟨by rfl, ?_⟩) (by assumption) ?_
      · intro W hSW; go_simp
      simp only [Act.put, List.setIfInBounds_toArray, List.set_cons_zero, List.set_cons_succ]
      refine wpAnyH_ready (rs := [11]) (by kernel_rfl) (by simp) ?_
      refine AllReadyH.cons rfl (fun KK hKK => ?_) AllReadyH.nil
      go_simp
      obtain ⟨a9, q9⟩ := set_box m HBX.out
      obtain ⟨w9, hw9⟩ : ∃ w9, w9 = ((w8.setCell ⟨wd.heap.size, 0, none⟩ (.int .i64 m.f)).setCell ⟨wd.heap.size, 1, none⟩ (.int .i64 m.t)).setCell ⟨wd.heap.size, 2, none⟩ (.slice m.d.p m.d.n m.d.c) := ⟨_, rfl⟩
      rw [← hw9] at a9 q9 ⊢
      have HE9 := hid (HE8.out.set a9 q9)
      have hS9 := HE9.out.sp (B := w.heap.size) (o := o) (by simp)
      clear HE8 a9 q9 hw9 HBX y0 y1 y2 z0 z1 z2
      refine hKK.out _ _ hS9 (fun hHeld => ?_)
      clear hKK KK
      refine wpAnyH_take (i := 12) (oi := ⟨some 12, _, _, _, _, _⟩) (v := (.int .i64 op.code)) rfl (by kernel_rfl) (by kernel_rfl) (by kernel_rfl) (fun _ _ _ h => h) (Or.inl ⟨by rfl, ?_⟩) (by assumption) ?_
      · intro W hSW; go_simp
      simp only [Act.put, List.setIfInBounds_toArray, List.set_cons_zero, List.set_cons_succ]
      refine wpAnyH_done (by kernel_rfl) ?_ _
      go_wp2_with fail
      go_meet
      exact ⟨wd.heap.size, m, rfl, rfl, HE9.out⟩
  obtain ⟨A2, m, rfl, rfl, hE2⟩ := hcut.ex
  clear hcut H2 HE
  obtain ⟨⟨y0, y1, y2⟩, _⟩ := box_cells (hE2.box (A := A1) (bx := boxL l) (by simp))
  obtain ⟨⟨y3, y4, y5⟩, _⟩ := box_cells (hE2.box (A := A2) (bx := boxL m) (by simp))
  have hc3 := H3.out _ _ _ _ hE2
  unfold LM.agg Sl.v at hc3
  clear hE2 H3
  go_wp2_with fail
  refine hc3.mono ?_
  clear hc3
  rintro _ w9 ⟨rfl, hQ⟩
  have HQ := hid hQ
  clear hQ
  dsimp only
  go_wp2
  go_ret
  exact ⟨rfl, HQ.out⟩
theorem plays_del {wa w : World} {P : Nat} {p : Px} {who : Nat → Option Nat} {K : Nat} (h : PQ wa w P p who p.x.cof) (hi : PI p K) (hK : K ≤ 50000) (o : OpC) (hk : o.k = 2) : Calls Try.prog 25 #[.pointer (some ⟨P, 0, none⟩), o.agg] w fun r w' => r = .returned (.bool true) ∧ PlPost wa w w' P p who K := by
  refine walk_del (gb := p.b.g) (gr := p.r.g) (x := opAt p.xs o.i) (op := opDel p.xs p.c o.i) hk (h.mid0.alloc (boxO o)) (fun W bs m => ?_) (fun l W bs e => ?_) (fun W bs l m e => e.letter hi hK (opDel_cb hi.cb))
  · exact (deliverP2 m.q o.i hi.cb (by omega)).mono (fun r w' hh => m.c1 hh)
  · obtain ⟨p1, who1, d, m, hp, ho, hn⟩ := e.ex
    have e1 : p1.ys = p.xs := by rw [hp]; exact hi.xy.1
    have e2 : p1.e = p.c := by rw [hp]; exact hi.xy.2
    have := rdeliverP (K := K) m.q o.i (by rw [e2]; exact hi.cb) (by omega)
    rw [m.gr, e1, e2] at this
    exact this.mono (fun r w' hh => E1.c2 m hp ho hn hh)
theorem plays_at {wa w : World} {P : Nat} {p : Px} {who : Nat → Option Nat} {K : Nat} (h : PQ wa w P p who p.x.cof) (hi : PI p K) (hK : K ≤ 50000) (o : OpC) (hk : o.k = 7) : Calls Try.prog 25 #[.pointer (some ⟨P, 0, none⟩), o.agg] w fun r w' => r = .returned (.bool true) ∧ PlPost wa w w' P p who K := by
  refine walk_at (gb := p.b.g) (gr := p.r.g) (x := opAt p.xs o.i) (op := opSee p.xs p.c o.i) hk (h.mid0.alloc (boxO o)) (fun W bs m => ?_) (fun l W bs e => ?_) (fun W bs l m e => e.letter hi hK (opSee_cb hi.cb))
  · exact (atP2 m.q o.i).mono (fun r w' hh => m.c1 hh)
  · obtain ⟨p1, who1, d, m, hp, ho, hn⟩ := e.ex
    have e1 : p1.ys = p.xs := by rw [hp]; exact hi.xy.1
    have e2 : p1.e = p.c := by rw [hp]; exact hi.xy.2
    have := ratP m.q o.i
    rw [m.gr, e1, e2] at this
    exact this.mono (fun r w' hh => E1.c2 m hp ho hn hh)
end Go.Proofs.Ytiakcfjbnlibfaa.nt
namespace Go.Proofs.Ytiakcfjbnlibfaa.nt
open Go.ChangeShapes Go.WideShapes Go.ChangeAt Go.RowKit
set_option linter.unusedVariables false
set_option linter.unusedSimpArgs false
/-- what Len and Counts read -/
structure SL (W : World) (P gb gr : Nat) (q : Option Addr) (n c : Nat) (k : Cn) : Prop where
  p : W.cell? ⟨P, 0, none⟩ = some (.pointer (some ⟨gb, 0, none⟩))
  r : W.cell? ⟨P, 1, none⟩ = some (.pointer (some ⟨gr, 0, none⟩))
  l : W.cell? ⟨gr, 1, none⟩ = some (.slice q n c)
  c0 : W.cell? ⟨gr, 2, none⟩ = some (.int .i64 k.c0)
  c1 : W.cell? ⟨gr, 3, none⟩ = some (.int .i64 k.c1)
  c2 : W.cell? ⟨gr, 4, none⟩ = some (.int .i64 k.c2)
  c3 : W.cell? ⟨gr, 5, none⟩ = some (.int .i64 k.c3)
  c4 : W.cell? ⟨gr, 6, none⟩ = some (.int .i64 k.c4)
theorem SL.out {W : World} {P gb gr : Nat} {q : Option Addr} {n c : Nat} {k : Cn} (h : SL W P gb gr q n c k) : W.cell? ⟨P, 0, none⟩ = some (.pointer (some ⟨gb, 0, none⟩)) ∧ W.cell? ⟨P, 1, none⟩ = some (.pointer (some ⟨gr, 0, none⟩)) ∧ W.cell? ⟨gr, 1, none⟩ = some (.slice q n c) ∧ W.cell? ⟨gr, 2, none⟩ = some (.int .i64 k.c0) ∧ W.cell? ⟨gr, 3, none⟩ = some (.int .i64 k.c1) ∧ W.cell? ⟨gr, 4, none⟩ = some (.int .i64 k.c2) ∧ W.cell? ⟨gr, 5, none⟩ = some (.int .i64 k.c3) ∧ W.cell? ⟨gr, 6, none⟩ = some (.int .i64 k.c4) := ⟨h.p, h.r, h.l, h.c0, h.c1, h.c2, h.c3, h.c4⟩
theorem PQ.sl {wa w : World} {P : Nat} {p : Px} {who : Nat → Option Nat} {l : Nat → List Value} (h : PQ wa w P p who l) : SL w P p.b.g p.r.g p.r.s.p p.r.s.n p.r.s.c p.e := by
  obtain ⟨_, b1, b2, b3, b4, b5, b6⟩ := h.rt.b.cells
  exact ⟨(h.sm.oth).1, (h.sm.oth).2.1, b1, b2, b3, b4, b5, b6⟩
theorem eq5 (w : World) (k : Cn) : (Op.equalIn 10000 39 k.agg k.agg).run Try.prog w = .ok true w := by
  have hu : Try.prog.underlying 39 = some (.array 5 3) := by kernel_rfl
  have h3 : Try.prog.underlying 3 = some (.int .i64) := by kernel_rfl
  obtain ⟨i, hi⟩ := info_of_underlying h3
  have hc : Try.prog.cellsOf 3 = 1 := by kernel_rfl
  have hp : Try.prog.plainKey 3 = true := by kernel_rfl
  unfold Cn.agg
  rw [run_equalIn_array w 9999 _ _ hu hi, hc]
  have pp : ∀ (xs : Array Value) (j : Nat) (v : Value), xs[j]? = some v → (part 3 xs j).run Try.prog w = .ok v w := fun xs j v h => run_part_plain w hp h
  have ei : ∀ a : Int, (Op.equalIn 9999 3 (.int .i64 a) (.int .i64 a)).run Try.prog w = .ok true w := fun a => by
    have := run_equalIn_int (P := Try.prog) w 9998 3 .i64 .i64 a a h3
    simpa using this
  simp only [show List.range 5 = [0, 1, 2, 3, 4] from rfl, Op.eqItems, Sem.run_bind, Nat.zero_mul, Nat.mul_one]
  rw [pp _ 0 (.int .i64 k.c0) (by simp)]
  simp only [Result.andThen_ok]
  rw [pp _ 0 (.int .i64 k.c0) (by simp)]
  simp only [Result.andThen_ok]
  rw [ei]
  simp only [Result.andThen_ok, Bool.not_true, Bool.false_eq_true, if_false, Sem.run_bind]
  rw [pp _ 1 (.int .i64 k.c1) (by simp)]
  simp only [Result.andThen_ok]
  rw [pp _ 1 (.int .i64 k.c1) (by simp)]
  simp only [Result.andThen_ok]
  rw [ei]
  simp only [Result.andThen_ok, Bool.not_true, Bool.false_eq_true, if_false, Sem.run_bind]
  rw [pp _ 2 (.int .i64 k.c2) (by simp)]
  simp only [Result.andThen_ok]
  rw [pp _ 2 (.int .i64 k.c2) (by simp)]
  simp only [Result.andThen_ok]
  rw [ei]
  simp only [Result.andThen_ok, Bool.not_true, Bool.false_eq_true, if_false, Sem.run_bind]
  rw [pp _ 3 (.int .i64 k.c3) (by simp)]
  simp only [Result.andThen_ok]
  rw [pp _ 3 (.int .i64 k.c3) (by simp)]
  simp only [Result.andThen_ok]
  rw [ei]
  simp only [Result.andThen_ok, Bool.not_true, Bool.false_eq_true, if_false, Sem.run_bind]
  rw [pp _ 4 (.int .i64 k.c4) (by simp)]
  simp only [Result.andThen_ok]
  rw [pp _ 4 (.int .i64 k.c4) (by simp)]
  simp only [Result.andThen_ok]
  rw [ei]
  simp only [Result.andThen_ok, Bool.not_true, Bool.false_eq_true, if_false, Sem.run_pure]
theorem PI.up {p : Px} {K : Nat} (h : PI p K) : PI p (K + 1) := ⟨h.xy, h.cb.le (by omega), h.room, by have := h.turns; omega, by have := h.mark; omega, h.kb, h.ki, fun e he => by have := h.km e he; omega, by have := h.lf; omega, by have := h.nm; omega, h.ll, h.nl⟩
set_option maxHeartbeats 8000000 in
set_option maxRecDepth 100000 in
theorem walk_len {w : World} {P gb gr : Nat} {o : OpC} {q : Option Addr} {n c : Nat} {k : Cn} {Q : World → Prop} (hk : o.k = 6) (hS : SL (w.alloc (boxO o)).drew P gb gr q n c k)
    (hc : Calls Try.prog 14 #[.pointer (some ⟨gb, 0, none⟩)] (w.alloc (boxO o)).drew fun r w' => r = .returned (.int .i64 (n : Int)) ∧ SL w' P gb gr q n c k ∧ Q w') :
    Calls Try.prog 25 #[.pointer (some ⟨P, 0, none⟩), o.agg] w fun r w' => r = .returned (.bool true) ∧ Q w' := by
  obtain ⟨W1, hW1⟩ : ∃ W1, W1 = w.alloc (boxO o) := ⟨_, rfl⟩
  rw [← hW1] at hS hc
  have q1 : W1.heap[w.heap.size]? = some (boxO o) := by rw [hW1]; exact heap_alloc_new w (boxO o)
  obtain ⟨x0, _⟩ := rowO q1
  rw [hk] at x0
  
  have HC := hid hc
  have HS := hid hS
  unfold boxO Sl.v at hW1
  unfold OpC.agg Sl.v
  rw [hk] at hW1 ⊢
  clear hc hS q1
  go_enter Try.func25, Try.ntmps25
  go_upto_region 1 with fail
  rw [← hW1]
  clear hW1
  go_upto_region 15 with fail
  refine wp_region_held_drew (S := fun X => SL X P gb gr q n c k) (by kernel_rfl) HS.out (fun hHeld => ?_)
  clear HS
  generalize hwd : W1.drew = wd at *
  clear hwd
  refine wpAnyH_take (i := 0) (oi := ⟨some 111, _, _, _, _, _⟩) (v := (.pointer (some ⟨P, 0, none⟩))) rfl (by kernel_rfl) (by kernel_rfl) (by kernel_rfl) (fun _ _ _ h => h) (Or.inl ⟨by rfl, ?_⟩) (by assumption) ?_
  · intro W hSW; obtain ⟨v0, v1, v2, v3, v4, v5, v6, v7⟩ := hSW.out; go_simp
  simp only [Act.put, List.setIfInBounds_toArray, List.set_cons_zero, List.set_cons_succ]
  refine wpAnyH_take (i := 1) (oi := ⟨some 112, _, _, _, _, _⟩) (v := (.pointer (some ⟨P, 0, none⟩))) rfl (by kernel_rfl) (by kernel_rfl) (by kernel_rfl) (fun _ _ _ h => h) (Or.inl ⟨by rfl, ?_⟩) (by assumption) ?_
  · intro W hSW; obtain ⟨v0, v1, v2, v3, v4, v5, v6, v7⟩ := hSW.out; go_simp
  simp only [Act.put, List.setIfInBounds_toArray, List.set_cons_zero, List.set_cons_succ]
  refine wpAnyH_take (i := 2) (oi := ⟨some 113, _, _, _, _, _⟩) (v := (.pointer (some ⟨P, 0, none⟩))) rfl (by kernel_rfl) (by kernel_rfl) (by kernel_rfl) (fun _ _ _ h => h) (Or.inl ⟨by rfl, ?_⟩) (by assumption) ?_
  · intro W hSW; obtain ⟨v0, v1, v2, v3, v4, v5, v6, v7⟩ := hSW.out; go_simp
  simp only [Act.put, List.setIfInBounds_toArray, List.set_cons_zero, List.set_cons_succ]
  refine wpAnyH_take (i := 3) (oi := ⟨some 114, _, _, _, _, _⟩) (v := (.pointer (some ⟨gb, 0, none⟩))) rfl (by kernel_rfl) (by kernel_rfl) (by kernel_rfl) (fun _ _ _ h => h) (Or.inl ⟨by rfl, ?_⟩) (by assumption) ?_
  · intro W hSW; obtain ⟨v0, v1, v2, v3, v4, v5, v6, v7⟩ := hSW.out; go_simp
  simp only [Act.put, List.setIfInBounds_toArray, List.set_cons_zero, List.set_cons_succ]
  refine wpAnyH_take (i := 5) (oi := ⟨some 116, _, _, _, _, _⟩) (v := (.pointer (some ⟨P, 0, none⟩))) rfl (by kernel_rfl) (by kernel_rfl) (by kernel_rfl) (fun _ _ _ h => h) (Or.inl ⟨by rfl, ?_⟩) (by assumption) ?_
  · intro W hSW; obtain ⟨v0, v1, v2, v3, v4, v5, v6, v7⟩ := hSW.out; go_simp
  simp only [Act.put, List.setIfInBounds_toArray, List.set_cons_zero, List.set_cons_succ]
  refine wpAnyH_take (i := 6) (oi := ⟨some 117, _, _, _, _, _⟩) (v := (.pointer (some ⟨P, 0, none⟩))) rfl (by kernel_rfl) (by kernel_rfl) (by kernel_rfl) (fun _ _ _ h => h) (Or.inl ⟨by rfl, ?_⟩) (by assumption) ?_
  · intro W hSW; obtain ⟨v0, v1, v2, v3, v4, v5, v6, v7⟩ := hSW.out; go_simp
  simp only [Act.put, List.setIfInBounds_toArray, List.set_cons_zero, List.set_cons_succ]
  refine wpAnyH_take (i := 7) (oi := ⟨some 118, _, _, _, _, _⟩) (v := (.pointer (some ⟨P, 1, none⟩))) rfl (by kernel_rfl) (by kernel_rfl) (by kernel_rfl) (fun _ _ _ h => h) (Or.inl ⟨by rfl, ?_⟩) (by assumption) ?_
  · intro W hSW; obtain ⟨v0, v1, v2, v3, v4, v5, v6, v7⟩ := hSW.out; go_simp
  simp only [Act.put, List.setIfInBounds_toArray, List.set_cons_zero, List.set_cons_succ]
  refine wpAnyH_take (i := 8) (oi := ⟨some 119, _, _, _, _, _⟩) (v := (.pointer (some ⟨gr, 0, none⟩))) rfl (by kernel_rfl) (by kernel_rfl) (by kernel_rfl) (fun _ _ _ h => h) (Or.inl ⟨by rfl, ?_⟩) (by assumption) ?_
  · intro W hSW; obtain ⟨v0, v1, v2, v3, v4, v5, v6, v7⟩ := hSW.out; go_simp
  simp only [Act.put, List.setIfInBounds_toArray, List.set_cons_zero, List.set_cons_succ]
  refine wpAnyH_take (i := 9) (oi := ⟨some 120, _, _, _, _, _⟩) (v := (.pointer (some ⟨gr, 0, none⟩))) rfl (by kernel_rfl) (by kernel_rfl) (by kernel_rfl) (fun _ _ _ h => h) (Or.inl ⟨by rfl, ?_⟩) (by assumption) ?_
  · intro W hSW; obtain ⟨v0, v1, v2, v3, v4, v5, v6, v7⟩ := hSW.out; go_simp
  simp only [Act.put, List.setIfInBounds_toArray, List.set_cons_zero, List.set_cons_succ]
  refine wpAnyH_take (i := 10) (oi := ⟨some 121, _, _, _, _, _⟩) (v := (.pointer (some ⟨gr, 1, none⟩))) rfl (by kernel_rfl) (by kernel_rfl) (by kernel_rfl) (fun _ _ _ h => h) (Or.inl ⟨by rfl, ?_⟩) (by assumption) ?_
  · intro W hSW; obtain ⟨v0, v1, v2, v3, v4, v5, v6, v7⟩ := hSW.out; go_simp
  simp only [Act.put, List.setIfInBounds_toArray, List.set_cons_zero, List.set_cons_succ]
  refine wpAnyH_take (i := 11) (oi := ⟨some 122, _, _, _, _, _⟩) (v := (.slice q n c)) rfl (by kernel_rfl) (by kernel_rfl) (by kernel_rfl) (fun _ _ _ h => h) (Or.inl ⟨by rfl, ?_⟩) (by assumption) ?_
  · intro W hSW; obtain ⟨v0, v1, v2, v3, v4, v5, v6, v7⟩ := hSW.out; go_simp
  simp only [Act.put, List.setIfInBounds_toArray, List.set_cons_zero, List.set_cons_succ]
  refine wpAnyH_take (i := 12) (oi := ⟨some 123, _, _, _, _, _⟩) (v := (.int .i64 (n : Int))) rfl (by kernel_rfl) (by kernel_rfl) (by kernel_rfl) (fun _ _ _ h => h) (Or.inl ⟨by rfl, ?_⟩) (by assumption) ?_
  · intro W hSW; obtain ⟨v0, v1, v2, v3, v4, v5, v6, v7⟩ := hSW.out; go_simp
  simp only [Act.put, List.setIfInBounds_toArray, List.set_cons_zero, List.set_cons_succ]
  refine wpAnyH_ready (rs := [4]) (by kernel_rfl) (by simp) ?_
  refine AllReadyH.cons rfl (fun KK hKK => ?_) AllReadyH.nil
  go_simp
  refine HC.out.mono ?_
  clear HC
  rintro _ w6 ⟨rfl, hS6, hQ⟩
  have HQ := hid hQ
  clear hQ
  try dsimp only
  refine hKK.out _ _ hS6 (fun hHeld => ?_)
  clear hKK KK
  refine wpAnyH_take (i := 13) (oi := ⟨some 124, _, _, _, _, _⟩) (v := (.bool true)) rfl (by kernel_rfl) (by kernel_rfl) (by kernel_rfl) (fun _ _ _ h => h) (Or.inl ⟨by rfl, ?_⟩) (by assumption) ?_
  · intro W hSW; go_simp
  simp only [Act.put, List.setIfInBounds_toArray, List.set_cons_zero, List.set_cons_succ]
  refine wpAnyH_take (i := 14) (oi := ⟨some 4, _, _, _, _, _⟩) (v := (.bool true)) rfl (by kernel_rfl) (by kernel_rfl) (by kernel_rfl) (fun _ _ _ h => h) (Or.inl ⟨by rfl, ?_⟩) (by assumption) ?_
  · intro W hSW; go_simp
  simp only [Act.put, List.setIfInBounds_toArray, List.set_cons_zero, List.set_cons_succ]
  refine wpAnyH_done (by kernel_rfl) ?_ _
  go_wp2
  go_ret
  exact ⟨rfl, HQ.out⟩
set_option maxHeartbeats 8000000 in
set_option maxRecDepth 100000 in
theorem walk_counts {w : World} {P gb gr : Nat} {o : OpC} {q : Option Addr} {n c : Nat} {k : Cn} {Q : World → Prop} (hk : o.k = 8) (hS : SL (w.alloc (boxO o)).drew P gb gr q n c k)
    (hc : Calls Try.prog 18 #[.pointer (some ⟨gb, 0, none⟩)] (w.alloc (boxO o)).drew fun r w' => r = .returned k.agg ∧ SL w' P gb gr q n c k ∧ Q w') :
    Calls Try.prog 25 #[.pointer (some ⟨P, 0, none⟩), o.agg] w fun r w' => r = .returned (.bool true) ∧ Q w' := by
  obtain ⟨W1, hW1⟩ : ∃ W1, W1 = w.alloc (boxO o) := ⟨_, rfl⟩
  rw [← hW1] at hS hc
  have q1 : W1.heap[w.heap.size]? = some (boxO o) := by rw [hW1]; exact heap_alloc_new w (boxO o)
  obtain ⟨x0, _⟩ := rowO q1
  rw [hk] at x0
  unfold Cn.agg at hc
  have HC := hid hc
  have HS := hid hS
  unfold boxO Sl.v at hW1
  unfold OpC.agg Sl.v
  rw [hk] at hW1 ⊢
  clear hc hS q1
  go_enter Try.func25, Try.ntmps25
  go_upto_region 1 with fail
  rw [← hW1]
  clear hW1
  go_upto_region 21 with fail
  refine wp_region_held_drew (S := fun X => SL X P gb gr q n c k) (by kernel_rfl) HS.out (fun hHeld => ?_)
  clear HS
  generalize hwd : W1.drew = wd at *
  clear hwd
  refine wpAnyH_take (i := 0) (oi := ⟨some 155, _, _, _, _, _⟩) (v := (.pointer (some ⟨P, 0, none⟩))) rfl (by kernel_rfl) (by kernel_rfl) (by kernel_rfl) (fun _ _ _ h => h) (Or.inl ⟨by rfl, ?_⟩) (by assumption) ?_
  · intro W hSW; obtain ⟨v0, v1, v2, v3, v4, v5, v6, v7⟩ := hSW.out; go_simp
  simp only [Act.put, List.setIfInBounds_toArray, List.set_cons_zero, List.set_cons_succ]
  refine wpAnyH_take (i := 1) (oi := ⟨some 156, _, _, _, _, _⟩) (v := (.pointer (some ⟨P, 0, none⟩))) rfl (by kernel_rfl) (by kernel_rfl) (by kernel_rfl) (fun _ _ _ h => h) (Or.inl ⟨by rfl, ?_⟩) (by assumption) ?_
  · intro W hSW; obtain ⟨v0, v1, v2, v3, v4, v5, v6, v7⟩ := hSW.out; go_simp
  simp only [Act.put, List.setIfInBounds_toArray, List.set_cons_zero, List.set_cons_succ]
  refine wpAnyH_take (i := 2) (oi := ⟨some 157, _, _, _, _, _⟩) (v := (.pointer (some ⟨P, 0, none⟩))) rfl (by kernel_rfl) (by kernel_rfl) (by kernel_rfl) (fun _ _ _ h => h) (Or.inl ⟨by rfl, ?_⟩) (by assumption) ?_
  · intro W hSW; obtain ⟨v0, v1, v2, v3, v4, v5, v6, v7⟩ := hSW.out; go_simp
  simp only [Act.put, List.setIfInBounds_toArray, List.set_cons_zero, List.set_cons_succ]
  refine wpAnyH_take (i := 3) (oi := ⟨some 158, _, _, _, _, _⟩) (v := (.pointer (some ⟨gb, 0, none⟩))) rfl (by kernel_rfl) (by kernel_rfl) (by kernel_rfl) (fun _ _ _ h => h) (Or.inl ⟨by rfl, ?_⟩) (by assumption) ?_
  · intro W hSW; obtain ⟨v0, v1, v2, v3, v4, v5, v6, v7⟩ := hSW.out; go_simp
  simp only [Act.put, List.setIfInBounds_toArray, List.set_cons_zero, List.set_cons_succ]
  refine wpAnyH_take (i := 5) (oi := ⟨some 160, _, _, _, _, _⟩) (v := (.pointer (some ⟨P, 0, none⟩))) rfl (by kernel_rfl) (by kernel_rfl) (by kernel_rfl) (fun _ _ _ h => h) (Or.inl ⟨by rfl, ?_⟩) (by assumption) ?_
  · intro W hSW; obtain ⟨v0, v1, v2, v3, v4, v5, v6, v7⟩ := hSW.out; go_simp
  simp only [Act.put, List.setIfInBounds_toArray, List.set_cons_zero, List.set_cons_succ]
  refine wpAnyH_take (i := 6) (oi := ⟨some 161, _, _, _, _, _⟩) (v := (.pointer (some ⟨P, 0, none⟩))) rfl (by kernel_rfl) (by kernel_rfl) (by kernel_rfl) (fun _ _ _ h => h) (Or.inl ⟨by rfl, ?_⟩) (by assumption) ?_
  · intro W hSW; obtain ⟨v0, v1, v2, v3, v4, v5, v6, v7⟩ := hSW.out; go_simp
  simp only [Act.put, List.setIfInBounds_toArray, List.set_cons_zero, List.set_cons_succ]
  refine wpAnyH_take (i := 7) (oi := ⟨some 162, _, _, _, _, _⟩) (v := (.pointer (some ⟨P, 1, none⟩))) rfl (by kernel_rfl) (by kernel_rfl) (by kernel_rfl) (fun _ _ _ h => h) (Or.inl ⟨by rfl, ?_⟩) (by assumption) ?_
  · intro W hSW; obtain ⟨v0, v1, v2, v3, v4, v5, v6, v7⟩ := hSW.out; go_simp
  simp only [Act.put, List.setIfInBounds_toArray, List.set_cons_zero, List.set_cons_succ]
  refine wpAnyH_take (i := 8) (oi := ⟨some 163, _, _, _, _, _⟩) (v := (.pointer (some ⟨gr, 0, none⟩))) rfl (by kernel_rfl) (by kernel_rfl) (by kernel_rfl) (fun _ _ _ h => h) (Or.inl ⟨by rfl, ?_⟩) (by assumption) ?_
  · intro W hSW; obtain ⟨v0, v1, v2, v3, v4, v5, v6, v7⟩ := hSW.out; go_simp
  simp only [Act.put, List.setIfInBounds_toArray, List.set_cons_zero, List.set_cons_succ]
  refine wpAnyH_take (i := 9) (oi := ⟨some 164, _, _, _, _, _⟩) (v := (.pointer (some ⟨gr, 0, none⟩))) rfl (by kernel_rfl) (by kernel_rfl) (by kernel_rfl) (fun _ _ _ h => h) (Or.inl ⟨by rfl, ?_⟩) (by assumption) ?_
  · intro W hSW; obtain ⟨v0, v1, v2, v3, v4, v5, v6, v7⟩ := hSW.out; go_simp
  simp only [Act.put, List.setIfInBounds_toArray, List.set_cons_zero, List.set_cons_succ]
  refine wpAnyH_take (i := 10) (oi := ⟨some 165, _, _, _, _, _⟩) (v := (.pointer (some ⟨gr, 2, none⟩))) rfl (by kernel_rfl) (by kernel_rfl) (by kernel_rfl) (fun _ _ _ h => h) (Or.inl ⟨by rfl, ?_⟩) (by assumption) ?_
  · intro W hSW; obtain ⟨v0, v1, v2, v3, v4, v5, v6, v7⟩ := hSW.out; go_simp
  simp only [Act.put, List.setIfInBounds_toArray, List.set_cons_zero, List.set_cons_succ]
  refine wpAnyH_take (i := 11) (oi := ⟨some 166, _, _, _, _, _⟩) (v := (.agg #[.int .i64 k.c0, .int .i64 k.c1, .int .i64 k.c2, .int .i64 k.c3, .int .i64 k.c4])) rfl (by kernel_rfl) (by kernel_rfl) (by kernel_rfl) (fun _ _ _ h => h) (Or.inl ⟨by rfl, ?_⟩) (by assumption) ?_
  · intro W hSW; obtain ⟨v0, v1, v2, v3, v4, v5, v6, v7⟩ := hSW.out; go_simp
  simp only [Act.put, List.setIfInBounds_toArray, List.set_cons_zero, List.set_cons_succ]
  refine wpAnyH_ready (rs := [4]) (by kernel_rfl) (by simp) ?_
  refine AllReadyH.cons rfl (fun KK hKK => ?_) AllReadyH.nil
  go_simp
  refine HC.out.mono ?_
  clear HC
  rintro _ w6 ⟨rfl, hS6, hQ⟩
  have HQ := hid hQ
  clear hQ
  try dsimp only
  refine hKK.out _ _ hS6 (fun hHeld => ?_)
  clear hKK KK
  refine wpAnyH_take (i := 12) (oi := ⟨some 167, _, _, _, _, _⟩) (v := (.bool true)) rfl (by kernel_rfl) (by kernel_rfl) (by kernel_rfl) (fun _ _ _ h => h) (Or.inl ⟨by rfl, ?_⟩) (by assumption) ?_
  · intro W hSW; have e5 := eq5 W k; unfold Cn.agg at e5; go_simp
  simp only [Act.put, List.setIfInBounds_toArray, List.set_cons_zero, List.set_cons_succ]
  refine wpAnyH_take (i := 13) (oi := ⟨some 4, _, _, _, _, _⟩) (v := (.bool true)) rfl (by kernel_rfl) (by kernel_rfl) (by kernel_rfl) (fun _ _ _ h => h) (Or.inl ⟨by rfl, ?_⟩) (by assumption) ?_
  · intro W hSW; go_simp
  simp only [Act.put, List.setIfInBounds_toArray, List.set_cons_zero, List.set_cons_succ]
  refine wpAnyH_done (by kernel_rfl) ?_ _
  go_wp2
  go_ret
  exact ⟨rfl, HQ.out⟩
set_option maxHeartbeats 8000000 in
set_option maxRecDepth 100000 in
theorem walk_send {w : World} {P : Nat} {o : OpC} {Q : World → Prop} (hk : o.k = 1)
    (hc : Calls Try.prog 34 #[.pointer (some ⟨P, 0, none⟩), o.l.agg] (w.alloc (boxO o)) fun r w' => r = .returned (.bool true) ∧ Q w') :
    Calls Try.prog 25 #[.pointer (some ⟨P, 0, none⟩), o.agg] w fun r w' => r = .returned (.bool true) ∧ Q w' := by
  obtain ⟨W1, hW1⟩ : ∃ W1, W1 = w.alloc (boxO o) := ⟨_, rfl⟩
  rw [← hW1] at hc
  have q1 : W1.heap[w.heap.size]? = some (boxO o) := by rw [hW1]; exact heap_alloc_new w (boxO o)
  obtain ⟨x0, _, _, x4, x5, x6⟩ := rowO q1
  rw [hk] at x0
  unfold LM.agg Sl.v at hc
  unfold boxO Sl.v at hW1
  unfold OpC.agg Sl.v
  rw [hk] at hW1 ⊢
  clear q1
  go_enter Try.func25, Try.ntmps25
  go_upto_region 1 with fail
  rw [← hW1]
  clear hW1
  go_wp2_with fail
  refine hc.mono ?_
  clear hc
  rintro _ w9 ⟨rfl, hQ⟩
  have HQ := hid hQ
  clear hQ
  dsimp only
  go_wp2
  go_ret
  exact ⟨rfl, HQ.out⟩
set_option maxHeartbeats 8000000 in
set_option maxRecDepth 100000 in
theorem walk_none {w : World} {P : Nat} {o : OpC} {Q : World → Prop} (h1 : o.k ≠ 1) (h2 : o.k ≠ 2) (h3 : o.k ≠ 3) (h4 : o.k ≠ 4) (h5 : o.k ≠ 5) (h6 : o.k ≠ 6) (h7 : o.k ≠ 7) (h8 : o.k ≠ 8) (h9 : o.k ≠ 9) (hQ : Q (w.alloc (boxO o))) :
    Calls Try.prog 25 #[.pointer (some ⟨P, 0, none⟩), o.agg] w fun r w' => r = .returned (.bool true) ∧ Q w' := by
  obtain ⟨W1, hW1⟩ : ∃ W1, W1 = w.alloc (boxO o) := ⟨_, rfl⟩
  rw [← hW1] at hQ
  have q1 : W1.heap[w.heap.size]? = some (boxO o) := by rw [hW1]; exact heap_alloc_new w (boxO o)
  obtain ⟨x0, _⟩ := rowO q1
  have HQ := hid hQ
  clear hQ
  unfold boxO Sl.v at hW1
  unfold OpC.agg Sl.v
  clear q1
  generalize o.k = kk at *
  go_enter Try.func25, Try.ntmps25
  go_upto_region 1 with fail
  rw [← hW1]
  clear hW1
  go_wp2
  go_ret
  exact ⟨rfl, HQ.out⟩
theorem plays_len {wa w : World} {P : Nat} {p : Px} {who : Nat → Option Nat} {K : Nat} (h : PQ wa w P p who p.x.cof) (hi : PI p K) (o : OpC) (hk : o.k = 6) : Calls Try.prog 25 #[.pointer (some ⟨P, 0, none⟩), o.agg] w fun r w' => r = .returned (.bool true) ∧ PlPost wa w w' P p who K := by
  have m := (h.mid0.alloc (boxO o)).drew
  refine walk_len hk m.q.sl ?_
  refine (len_ok m.q.bt.b).mono (fun r w' hh => ?_)
  obtain ⟨rfl, a⟩ := hh
  have e : p.b.s.n = p.r.s.n := by rw [← h.bt.b.xl, ← h.rt.b.xl, hi.xy.1]
  exact ⟨by rw [e], (m.kept a).q.sl, who, p, (m.kept a).q, hi.up, rfl, (m.kept a).st⟩
theorem plays_counts {wa w : World} {P : Nat} {p : Px} {who : Nat → Option Nat} {K : Nat} (h : PQ wa w P p who p.x.cof) (hi : PI p K) (o : OpC) (hk : o.k = 8) : Calls Try.prog 25 #[.pointer (some ⟨P, 0, none⟩), o.agg] w fun r w' => r = .returned (.bool true) ∧ PlPost wa w w' P p who K := by
  have m := (h.mid0.alloc (boxO o)).drew
  refine walk_counts hk m.q.sl ?_
  refine (counts_ok m.q.bt.b).mono (fun r w' hh => ?_)
  obtain ⟨rfl, a⟩ := hh
  exact ⟨by rw [hi.xy.2], (m.kept a).q.sl, who, p, (m.kept a).q, hi.up, rfl, (m.kept a).st⟩
theorem plays_send {wa w : World} {P : Nat} {p : Px} {who : Nat → Option Nat} {K : Nat} (h : PQ wa w P p who p.x.cof) (hi : PI p K) (hK : K ≤ 100000) (o : OpC) (hk : o.k = 1) (x : Tx) (hl : ReadsL w o.l x) (hln : ∀ A q, 0 < o.l.d.n → o.l.d.p = some ⟨A, q, none⟩ → who A = none ∧ A < w.heap.size) : Calls Try.prog 25 #[.pointer (some ⟨P, 0, none⟩), o.agg] w fun r w' => r = .returned (.bool true) ∧ PlPost wa w w' P p who K := by
  have m := h.mid0.alloc (boxO o)
  have a : Apart [] w (w.alloc (boxO o)) := (Apart.refl [] w).alloc _
  refine walk_send hk ?_
  refine (sends_ok m.q hi.xy o.l x (hl.kept0 a) (fun A q e0 e => ⟨(hln A q e0 e).1, Nat.lt_of_lt_of_le (hln A q e0 e).2 a.size⟩) hi.cb (by omega) hi.room).mono (fun r w' hh => ?_)
  obtain ⟨rfl, hh⟩ := hh
  obtain ⟨who', p', hq, h1, h2, h3, h4, h5, h6, h7, hs⟩ := hh.ex
  have u := hi.up
  refine ⟨rfl, who', p', by rw [h3]; exact hq, ⟨⟨h1, h2⟩, h7, by rw [h6]; exact u.room, by rw [h5]; exact u.turns, by rw [h4]; exact u.mark, by rw [h3]; exact u.kb, by rw [h3]; exact u.ki, by rw [h3]; exact u.km, by rw [h3]; exact u.lf, by rw [h3]; exact u.nm, by rw [h3]; exact u.ll, by rw [h3]; exact u.nl⟩, h6, m.st.trans hs⟩
theorem plays_none {wa w : World} {P : Nat} {p : Px} {who : Nat → Option Nat} {K : Nat} (h : PQ wa w P p who p.x.cof) (hi : PI p K) (o : OpC) (h1 : o.k ≠ 1) (h2 : o.k ≠ 2) (h3 : o.k ≠ 3) (h4 : o.k ≠ 4) (h5 : o.k ≠ 5) (h6 : o.k ≠ 6) (h7 : o.k ≠ 7) (h8 : o.k ≠ 8) (h9 : o.k ≠ 9) : Calls Try.prog 25 #[.pointer (some ⟨P, 0, none⟩), o.agg] w fun r w' => r = .returned (.bool true) ∧ PlPost wa w w' P p who K := by
  have m := h.mid0.alloc (boxO o)
  exact walk_none h1 h2 h3 h4 h5 h6 h7 h8 h9 ⟨who, p, m.q, hi.up, rfl, m.st⟩
end Go.Proofs.Ytiakcfjbnlibfaa.nt
namespace Go.Proofs.Ytiakcfjbnlibfaa.nt
open Go.ChangeShapes Go.WideShapes Go.ChangeAt Go.RowKit
set_option linter.unusedVariables false
set_option linter.unusedSimpArgs false
theorem cof_nm (x : Sx) (e : Sl × List Nat × Sl) (f : Nat) (hf : f ∈ fs) : updC (updC x.cof 10 (x.cof 10 ++ [.slice e.1.p e.1.n e.1.c])) 11 (x.cof 11 ++ [.slice e.2.2.p e.2.2.n e.2.2.c]) f = Sx.cof { x with nm := x.nm ++ [e] } f := by
  simp only [fs, List.mem_cons, List.not_mem_nil, or_false] at hf
  rcases hf with rfl | rfl | rfl | rfl | rfl | rfl | rfl | rfl <;> simp [updC, Sx.cof, Sl.v]
theorem info3 : (Try.prog.info? 3).map (fun i => (i.zero, i.size, i.bytes)) = some (some (.int .i64 0), 1, 8) := by kernel_rfl
theorem und65 : Try.prog.underlying 65 = some (.slice 3) := by kernel_rfl
theorem oneN (l : List Nat) : ∀ u ∈ nums l, u.oneCell' = true := fun u hu => by
  simp only [nums, List.mem_map] at hu
  obtain ⟨b, _, rfl⟩ := hu
  rfl
/-- what the two appends of numbers that are left alone do -/
structure OddT (w3 : World) (P : Nat) (s : Sl) (Q : World → Prop) : Prop where
  ex : ∃ p10 n10 cp10 p10' cp10' w4 y10 w5 p11 n11 cp11 s' W6 p11' cp11' w7 y11 w8, w3.cell? ⟨P, 10, none⟩ = some (.slice p10 n10 cp10) ∧ w3.frozen? ⟨P, 10, none⟩ = false ∧
    (Builtin.append_ #[64, 64] 64 #[.slice p10 n10 cp10, .slice (some ⟨w3.heap.size, 0, none⟩) 1 1]).run Try.prog (w3.alloc (.cells #[.slice s.p s.n s.c] 65)) = .ok (.slice p10' (n10 + 1) cp10') w4 ∧ w4.cell? ⟨P, 10, none⟩ = some y10 ∧ w4.frozen? ⟨P, 10, none⟩ = false ∧ w5 = w4.setCell ⟨P, 10, none⟩ (.slice p10' (n10 + 1) cp10') ∧
    w5.drew.cell? ⟨P, 11, none⟩ = some (.slice p11 n11 cp11) ∧ (Builtin.append_ #[65, 65] 65 #[.slice none 0 0, .slice s.p s.n s.c]).run Try.prog w5.drew = .ok (.slice (Sl.p s') (Sl.n s') (Sl.c s')) W6 ∧ W6.cell? ⟨P, 11, none⟩ = some (.slice p11 n11 cp11) ∧ (W6.alloc (.cells #[.slice s'.p s'.n s'.c] 65)).cell? ⟨P, 11, none⟩ = some (.slice p11 n11 cp11) ∧
    (Builtin.append_ #[64, 64] 64 #[.slice p11 n11 cp11, .slice (some ⟨W6.heap.size, 0, none⟩) 1 1]).run Try.prog (W6.alloc (.cells #[.slice s'.p s'.n s'.c] 65)) = .ok (.slice p11' (n11 + 1) cp11') w7 ∧ w7.cell? ⟨P, 11, none⟩ = some y11 ∧ w7.frozen? ⟨P, 11, none⟩ = false ∧ w8 = w7.setCell ⟨P, 11, none⟩ (.slice p11' (n11 + 1) cp11') ∧ Q w8
theorem to_odd {wa w0 w3 : World} {P : Nat} {p : Px} {who0 who : Nat → Option Nat} {s : Sl} {l : List Nat} {K : Nat} (hq : PQ wa w3 P p who p.x.cof) (st : Stp w0 w3 who0 who none) (lo : wa.heap.size ≤ w0.heap.size) (ho : w3.ownsRow 0 3 1 s.v s.n (nums l)) (hl : s.n = l.length) (hfree : ∀ k, s.v.ownBlock = some k → w0.heap.size ≤ k ∧ who k = none) (hn : p.x.nm.length ≤ 50000) (hll : l.length ≤ 100000)
    (hi : ∀ s', PI { p with x := { p.x with nm := p.x.nm ++ [(s, l, s')] } } K) : OddT w3 P s (fun w8 => ∃ who' p', PQ wa w8 P p' who' p'.x.cof ∧ PI p' K ∧ p'.room = p.room ∧ Stp w0 w8 who0 who' none) := by
  have hT := hq.tag s.v.ownBlock (41 + 2 * p.x.nm.length) (fun k hk => ⟨(hfree k hk).2, (ho.lt k hk).2, Nat.le_trans lo (hfree k hk).1⟩)
  obtain ⟨hT, hTw⟩ := hT
  have oT : OB w3 (whoP who s.v.ownBlock (41 + 2 * p.x.nm.length)) (41 + 2 * p.x.nm.length) s (nums l) 3 := ⟨ho, fun k hk => whoP_at hk⟩
  have sT : Stp w0 w3 who0 (whoP who s.v.ownBlock (41 + 2 * p.x.nm.length)) none := st.fin (Stp.tag hTw) (fun b hb => (hfree b hb).1)
  generalize whoP who s.v.ownBlock (41 + 2 * p.x.nm.length) = who1 at *
  have hL10 : (p.x.cof 10).length = p.x.nm.length := by simp [Sx.cof]
  have hL11 : (p.x.cof 11).length = p.x.nm.length := by simp [Sx.cof]
  obtain ⟨p10, cp10, c10, f10, _⟩ := hT.sm.field 10 (by decide)
  obtain ⟨p10', cp10', w4, who4, hrun10, ⟨y10, hy10⟩, hfz10, hPQ5, hst5, X5, aX5, aY5, hX5⟩ := hT.app2 10 (by decide) (.slice s.p s.n s.c) rfl (by omega) c10 64 none
  obtain ⟨w5, hw5⟩ : ∃ w5, w5 = w4.setCell ⟨P, 10, none⟩ (.slice p10' ((p.x.cof 10).length + 1) cp10') := ⟨_, rfl⟩
  rw [← hw5] at hPQ5 hst5 aY5
  have o5 := oT.mv aY5 (fun k hk e => by rcases hX5 k hk with h | h <;> (rw [h] at e; have := Option.some.inj e; omega)) hst5.old
  have s5 := sT.trans hst5
  have ad : Apart [] w5 w5.drew := (Apart.refl [] w5).drew
  have hPd := hPQ5.kept0 ad
  have od := o5.mv ad (by simp) (fun _ _ h => h)
  have sd := s5.trans (Stp.ap0 ad)
  obtain ⟨i0, hi0, hz0, hz1, hz2⟩ := info_parts info3
  have hnl : (nums l).length = s.n := by simp [nums]; omega
  obtain ⟨s', W6, hrunN, nw6, hs6⟩ := run_appNil w5.drew 65 65 3 i0 _ 1 8 und65 hi0 hz0 hz1 hz2 rfl (by decide) s (nums l) (Rd.own od.o) (by omega) (oneN l) (by omega) (by omega) (by
    intro hp
    obtain ⟨_, ⟨hv, hz⟩ | ⟨g, cap, cur, hv, _⟩⟩ := ho
    · unfold Sl.v at hv; simp at hv; exact ⟨hz, hv.2.2⟩
    · unfold Sl.v at hv; simp [hp] at hv)
  have hP6 := hPd.kept0 nw6.ap
  have o6 := od.mv nw6.ap (by simp) (fun _ _ h => h)
  have s6 := sd.trans (Stp.ap0 nw6.ap)
  have hT6 := hP6.tag s'.v.ownBlock 31 (fun k hk => ⟨hPd.free (nw6.new k hk), (nw6.own.lt k hk).2, Nat.le_trans hPd.ap.size (nw6.new k hk)⟩)
  obtain ⟨hT6, hTw6⟩ := hT6
  have o6' : OB W6 (whoP who4 s'.v.ownBlock 31) 31 s' (nums l) 3 := ⟨nw6.own, fun k hk => whoP_at hk⟩
  have sz0 : w0.heap.size ≤ w5.drew.heap.size := by obtain ⟨X, aX, _⟩ := sd.ap; exact aX.size
  have sT6 : Stp w0 W6 who0 (whoP who4 s'.v.ownBlock 31) none := s6.fin (Stp.tag hTw6) (fun b hb => Nat.le_trans sz0 (nw6.new b hb))
  have o6b := o6.mv (Apart.refl [] W6) (by simp) hTw6
  generalize whoP who4 s'.v.ownBlock 31 = who6 at *
  have e11 : updC p.x.cof 10 (p.x.cof 10 ++ [.slice s.p s.n s.c]) 11 = p.x.cof 11 := by simp [updC]
  obtain ⟨p11, cp11, c11, f11, _⟩ := hPd.sm.field 11 (by decide)
  rw [e11] at c11
  have c11' : W6.cell? ⟨P, 11, none⟩ = some (.slice p11 (p.x.cof 11).length cp11) := (nw6.ap.cell hPd.sm.lt (by simp)).trans c11
  obtain ⟨p11', cp11', w7, who7, hrun11, ⟨y11, hy11⟩, hfz11, hPQ8, hst8, X8, aX8, aY8, hX8⟩ := hT6.app2 11 (by decide) (.slice s'.p s'.n s'.c) rfl (by rw [e11]; omega) (by rw [e11]; exact c11') 64 none
  rw [e11] at hrun11 hPQ8 hst8 aY8
  obtain ⟨w8, hw8⟩ : ∃ w8, w8 = w7.setCell ⟨P, 11, none⟩ (.slice p11' ((p.x.cof 11).length + 1) cp11') := ⟨_, rfl⟩
  rw [← hw8] at hPQ8 hst8 aY8
  have o8 := o6b.mv aY8 (fun k hk e => by rcases hX8 k hk with h | h <;> (rw [h] at e; have := Option.some.inj e; omega)) hst8.old
  have o8' := o6'.mv aY8 (fun k hk e => by rcases hX8 k hk with h | h <;> (rw [h] at e; have := Option.some.inj e; omega)) hst8.old
  refine ⟨p10, _, cp10, p10', cp10', w4, y10, w5, p11, _, cp11, s', W6, p11', cp11', w7, y11, w8, c10, f10, hrun10, hy10, hfz10, hw5, c11, hrunN, c11', (((Apart.refl [] W6).alloc _).cell hT6.sm.lt (by simp)).trans c11', hrun11, hy11, hfz11, hw8, who7, { p with x := { p.x with nm := p.x.nm ++ [(s, l, s')] } }, ?_, hi s', rfl, sT6.trans hst8⟩
  refine (hPQ8.congr (fun f hf => cof_nm p.x (s, l, s') f hf)).setX _ ⟨hPQ8.an.kb, hPQ8.an.ki, hPQ8.an.lf, fun i e he => ?_⟩
  by_cases hi : i < p.x.nm.length
  · rw [List.getElem?_append_left hi] at he; exact hPQ8.an.nm i e he
  · have hil : i = p.x.nm.length := by
      have := (List.getElem?_eq_some_iff.1 he).1
      simp at this
      omega
    subst hil
    simp at he
    subst he
    exact ⟨o8, o8'⟩
/-- behind To of both -/
structure To3 (w3 : World) (P : Nat) (s : Sl) (t : Nat) (Q : World → Prop) : Prop where
  c : w3.cell? ⟨P, 12, none⟩ = some (.int .i64 (t : Int))
  f : w3.frozen? ⟨P, 12, none⟩ = false
  c' : (w3.setCell ⟨P, 12, none⟩ (.int .i64 ((t : Int) + 1))).cell? ⟨P, 12, none⟩ = some (.int .i64 ((t : Int) + 1))
  odd : t % 2 = 0 → OddT (w3.setCell ⟨P, 12, none⟩ (.int .i64 ((t : Int) + 1))) P s Q
  even : t % 2 = 1 → Calls Try.prog 44 #[.pointer (some ⟨P, 0, none⟩), .slice s.p s.n s.c] (w3.setCell ⟨P, 12, none⟩ (.int .i64 ((t : Int) + 1))) fun r w' => r = .returned (.tuple #[]) ∧ Q w'
structure To2 (r : Ending) (w2 : World) (B : Nat) (o : OpC) (P gb gr : Nat) (s : Sl) (t : Nat) (Q : World → Prop) : Prop where
  ex : ∃ s2 : Sl, r = .returned (.slice s2.p s2.n s2.c) ∧ SP w2 B o P gb gr ∧ Calls Try.prog 42 #[.slice s.p s.n s.c, .slice s2.p s2.n s2.c] w2 fun r w3 => r = .returned (.bool true) ∧ SP w3 B o P gb gr ∧ To3 w3 P s t Q
structure To1 (r : Ending) (w1 : World) (B : Nat) (o : OpC) (P gb gr : Nat) (t : Nat) (Q : World → Prop) : Prop where
  ex : ∃ s : Sl, r = .returned (.slice s.p s.n s.c) ∧ SP w1 B o P gb gr ∧ SP w1.drew B o P gb gr ∧ Calls Try.prog 43 #[.pointer (some ⟨gr, 0, none⟩), .int .i64 o.i] w1.drew fun r w2 => To2 r w2 B o P gb gr s t Q
theorem PI.up2 {p : Px} {K : Nat} (h : PI p K) : PI p (K + 1) := ⟨h.xy, h.cb.le (by omega), h.room, by have := h.turns; omega, by have := h.mark; omega, h.kb, h.ki, fun e he => by have := h.km e he; omega, by have := h.lf; omega, by have := h.nm; omega, h.ll, h.nl⟩
set_option maxHeartbeats 8000000 in
set_option maxRecDepth 100000 in
theorem walk_to {w : World} {P gb gr : Nat} {o : OpC} {t : Nat} {Q : World → Prop} (hk : o.k = 9) (ht : t ≤ 100000) (hS : SP (w.alloc (boxO o)).drew w.heap.size o P gb gr)
    (hc : Calls Try.prog 41 #[.pointer (some ⟨gb, 0, none⟩), .int .i64 o.i] (w.alloc (boxO o)).drew fun r w' => To1 r w' w.heap.size o P gb gr t Q) :
    Calls Try.prog 25 #[.pointer (some ⟨P, 0, none⟩), o.agg] w fun r w' => r = .returned (.bool true) ∧ Q w' := by
  obtain ⟨W1, hW1⟩ : ∃ W1, W1 = w.alloc (boxO o) := ⟨_, rfl⟩
  rw [← hW1] at hS hc
  have q1 : W1.heap[w.heap.size]? = some (boxO o) := by rw [hW1]; exact heap_alloc_new w (boxO o)
  obtain ⟨x0, _⟩ := rowO q1
  rw [hk] at x0
  have HC := hid hc
  have HS := hid hS
  unfold boxO Sl.v at hW1
  unfold OpC.agg Sl.v
  rw [hk] at hW1 ⊢
  clear hc hS q1
  go_enter Try.func25, Try.ntmps25
  go_upto_region 1 with fail
  rw [← hW1]
  clear hW1
  go_upto_region 23 with fail
  refine wp_region_held_drew (S := fun X => SP X w.heap.size o P gb gr) (by kernel_rfl) HS.out (fun hHeld => ?_)
  clear HS
  generalize hwd : W1.drew = wd at *
  clear hwd
  refine wpAnyH_take (i := 0) (oi := ⟨some 170, _, _, _, _, _⟩) (v := (.pointer (some ⟨P, 0, none⟩))) rfl (by kernel_rfl) (by kernel_rfl) (by kernel_rfl) (fun _ _ _ h => h) (Or.inl ⟨by rfl, ?_⟩) (by assumption) ?_
  · intro W hSW; obtain ⟨v0, v2, v3, v7, v8⟩ := hSW.out; go_simp
  simp only [Act.put, List.setIfInBounds_toArray, List.set_cons_zero, List.set_cons_succ]
  refine wpAnyH_take (i := 1) (oi := ⟨some 171, _, _, _, _, _⟩) (v := (.pointer (some ⟨P, 0, none⟩))) rfl (by kernel_rfl) (by kernel_rfl) (by kernel_rfl) (fun _ _ _ h => h) (Or.inl ⟨by rfl, ?_⟩) (by assumption) ?_
  · intro W hSW; obtain ⟨v0, v2, v3, v7, v8⟩ := hSW.out; go_simp
  simp only [Act.put, List.setIfInBounds_toArray, List.set_cons_zero, List.set_cons_succ]
  refine wpAnyH_take (i := 2) (oi := ⟨some 172, _, _, _, _, _⟩) (v := (.pointer (some ⟨P, 0, none⟩))) rfl (by kernel_rfl) (by kernel_rfl) (by kernel_rfl) (fun _ _ _ h => h) (Or.inl ⟨by rfl, ?_⟩) (by assumption) ?_
  · intro W hSW; obtain ⟨v0, v2, v3, v7, v8⟩ := hSW.out; go_simp
  simp only [Act.put, List.setIfInBounds_toArray, List.set_cons_zero, List.set_cons_succ]
  refine wpAnyH_take (i := 3) (oi := ⟨some 173, _, _, _, _, _⟩) (v := (.pointer (some ⟨gb, 0, none⟩))) rfl (by kernel_rfl) (by kernel_rfl) (by kernel_rfl) (fun _ _ _ h => h) (Or.inl ⟨by rfl, ?_⟩) (by assumption) ?_
  · intro W hSW; obtain ⟨v0, v2, v3, v7, v8⟩ := hSW.out; go_simp
  simp only [Act.put, List.setIfInBounds_toArray, List.set_cons_zero, List.set_cons_succ]
  refine wpAnyH_take (i := 4) (oi := ⟨some 174, _, _, _, _, _⟩) (v := (.pointer (some ⟨w.heap.size, 2, none⟩))) rfl (by kernel_rfl) (by kernel_rfl) (by kernel_rfl) (fun _ _ _ h => h) (Or.inl ⟨by rfl, ?_⟩) (by assumption) ?_
  · intro W hSW; obtain ⟨v0, v2, v3, v7, v8⟩ := hSW.out; go_simp
  simp only [Act.put, List.setIfInBounds_toArray, List.set_cons_zero, List.set_cons_succ]
  refine wpAnyH_take (i := 5) (oi := ⟨some 175, _, _, _, _, _⟩) (v := (.int .i64 o.i)) rfl (by kernel_rfl) (by kernel_rfl) (by kernel_rfl) (fun _ _ _ h => h) (Or.inl ⟨by rfl, ?_⟩) (by assumption) ?_
  · intro W hSW; obtain ⟨v0, v2, v3, v7, v8⟩ := hSW.out; go_simp
  simp only [Act.put, List.setIfInBounds_toArray, List.set_cons_zero, List.set_cons_succ]
  refine wpAnyH_ready (rs := [6]) (by kernel_rfl) (by simp) ?_
  refine AllReadyH.cons rfl (fun KK hKK => ?_) AllReadyH.nil
  go_simp
  refine HC.out.mono ?_
  clear HC
  rintro _ w6 hh
  obtain ⟨s, hr6, hS6, hS6d, hc6⟩ := hh.ex
  clear hh
  subst hr6
  have HS6 := hid hS6d
  have HC6 := hid hc6
  clear hS6d hc6
  try dsimp only
  refine hKK.out _ _ hS6 (fun hHeld => ?_)
  clear hKK KK
  refine wpAnyH_take (i := 7) (oi := ⟨some 13, _, _, _, _, _⟩) (v := (.slice s.p s.n s.c)) rfl (by kernel_rfl) (by kernel_rfl) (by kernel_rfl) (fun _ _ _ h => h) (Or.inl ⟨by rfl, ?_⟩) (by assumption) ?_
  · intro W hSW; go_simp
  simp only [Act.put, List.setIfInBounds_toArray, List.set_cons_zero, List.set_cons_succ]
  refine wpAnyH_done (by kernel_rfl) ?_ _
  clear hS6
  go_upto_region 24 with fail
  refine wp_region_held_drew (S := fun X => SP X w.heap.size o P gb gr) (by kernel_rfl) HS6.out (fun hHeld => ?_)
  clear HS6
  generalize hwd : w6.drew = wd2 at *
  clear hwd
  refine wpAnyH_take (i := 0) (oi := ⟨some 177, _, _, _, _, _⟩) (v := (.slice s.p s.n s.c)) rfl (by kernel_rfl) (by kernel_rfl) (by kernel_rfl) (fun _ _ _ h => h) (Or.inl ⟨by rfl, ?_⟩) (by assumption) ?_
  · intro W hSW; obtain ⟨v0, v2, v3, v7, v8⟩ := hSW.out; go_simp
  simp only [Act.put, List.setIfInBounds_toArray, List.set_cons_zero, List.set_cons_succ]
  refine wpAnyH_take (i := 1) (oi := ⟨some 178, _, _, _, _, _⟩) (v := (.pointer (some ⟨P, 0, none⟩))) rfl (by kernel_rfl) (by kernel_rfl) (by kernel_rfl) (fun _ _ _ h => h) (Or.inl ⟨by rfl, ?_⟩) (by assumption) ?_
  · intro W hSW; obtain ⟨v0, v2, v3, v7, v8⟩ := hSW.out; go_simp
  simp only [Act.put, List.setIfInBounds_toArray, List.set_cons_zero, List.set_cons_succ]
  refine wpAnyH_take (i := 2) (oi := ⟨some 179, _, _, _, _, _⟩) (v := (.pointer (some ⟨P, 0, none⟩))) rfl (by kernel_rfl) (by kernel_rfl) (by kernel_rfl) (fun _ _ _ h => h) (Or.inl ⟨by rfl, ?_⟩) (by assumption) ?_
  · intro W hSW; obtain ⟨v0, v2, v3, v7, v8⟩ := hSW.out; go_simp
  simp only [Act.put, List.setIfInBounds_toArray, List.set_cons_zero, List.set_cons_succ]
  refine wpAnyH_take (i := 3) (oi := ⟨some 180, _, _, _, _, _⟩) (v := (.pointer (some ⟨P, 1, none⟩))) rfl (by kernel_rfl) (by kernel_rfl) (by kernel_rfl) (fun _ _ _ h => h) (Or.inl ⟨by rfl, ?_⟩) (by assumption) ?_
  · intro W hSW; obtain ⟨v0, v2, v3, v7, v8⟩ := hSW.out; go_simp
  simp only [Act.put, List.setIfInBounds_toArray, List.set_cons_zero, List.set_cons_succ]
  refine wpAnyH_take (i := 4) (oi := ⟨some 181, _, _, _, _, _⟩) (v := (.pointer (some ⟨gr, 0, none⟩))) rfl (by kernel_rfl) (by kernel_rfl) (by kernel_rfl) (fun _ _ _ h => h) (Or.inl ⟨by rfl, ?_⟩) (by assumption) ?_
  · intro W hSW; obtain ⟨v0, v2, v3, v7, v8⟩ := hSW.out; go_simp
  simp only [Act.put, List.setIfInBounds_toArray, List.set_cons_zero, List.set_cons_succ]
  refine wpAnyH_take (i := 5) (oi := ⟨some 182, _, _, _, _, _⟩) (v := (.pointer (some ⟨w.heap.size, 2, none⟩))) rfl (by kernel_rfl) (by kernel_rfl) (by kernel_rfl) (fun _ _ _ h => h) (Or.inl ⟨by rfl, ?_⟩) (by assumption) ?_
  · intro W hSW; obtain ⟨v0, v2, v3, v7, v8⟩ := hSW.out; go_simp
  simp only [Act.put, List.setIfInBounds_toArray, List.set_cons_zero, List.set_cons_succ]
  refine wpAnyH_take (i := 6) (oi := ⟨some 183, _, _, _, _, _⟩) (v := (.int .i64 o.i)) rfl (by kernel_rfl) (by kernel_rfl) (by kernel_rfl) (fun _ _ _ h => h) (Or.inl ⟨by rfl, ?_⟩) (by assumption) ?_
  · intro W hSW; obtain ⟨v0, v2, v3, v7, v8⟩ := hSW.out; go_simp
  simp only [Act.put, List.setIfInBounds_toArray, List.set_cons_zero, List.set_cons_succ]
  refine wpAnyH_ready (rs := [7]) (by kernel_rfl) (by simp) ?_
  refine AllReadyH.cons rfl (fun KK hKK => ?_) AllReadyH.nil
  go_simp
  refine HC6.out.mono ?_
  clear HC6
  rintro _ w7 hh
  obtain ⟨s2, hr7, hS7, hc7⟩ := hh.ex
  clear hh
  subst hr7
  have HC7 := hid hc7
  clear hc7
  try dsimp only
  refine hKK.out _ _ hS7 (fun hHeld => ?_)
  clear hKK KK
  refine wpAnyH_ready (rs := [8]) (by kernel_rfl) (by simp) ?_
  refine AllReadyH.cons rfl (fun KK hKK => ?_) AllReadyH.nil
  go_simp
  refine HC7.out.mono ?_
  clear HC7
  rintro _ w8 hh
  obtain ⟨hr8, hS8, hT8⟩ := hh
  subst hr8
  have HT8 := hid hT8
  clear hT8 hS7
  try dsimp only
  refine hKK.out _ _ hS8 (fun hHeld => ?_)
  clear hKK KK
  refine wpAnyH_take (i := 9) (oi := ⟨some 14, _, _, _, _, _⟩) (v := (.bool true)) rfl (by kernel_rfl) (by kernel_rfl) (by kernel_rfl) (fun _ _ _ h => h) (Or.inl ⟨by rfl, ?_⟩) (by assumption) ?_
  · intro W hSW; go_simp
  simp only [Act.put, List.setIfInBounds_toArray, List.set_cons_zero, List.set_cons_succ]
  refine wpAnyH_done (by kernel_rfl) ?_ _
  clear hS8
  have o12 := HT8.out.c
  have f12 := HT8.out.f
  obtain ⟨w3, hw3⟩ : ∃ w3, w3 = w8.setCell ⟨P, 12, none⟩ (.int .i64 ((t : Int) + 1)) := ⟨_, rfl⟩
  have o12' : w3.cell? ⟨P, 12, none⟩ = some (.int .i64 ((t : Int) + 1)) := by rw [hw3]; exact HT8.out.c'
  have HOD := hid HT8.out.odd
  have HEV := hid HT8.out.even
  rw [← hw3] at HOD HEV
  clear HT8
  go_upto_region 26 with fail
  rw [← hw3]
  clear hw3 o12 f12
  by_cases hodd : t % 2 = 0
  · have htm : ((t : Int) + 1).tmod 2 = 1 := by rw [Int.tmod_eq_emod_of_nonneg (by omega)]; omega
    have hO := HOD.out hodd
    clear HOD HEV
    obtain ⟨p10, n10, cp10, p10', cp10', w4, y10, w5, p11, n11, cp11, s', W6, p11', cp11', w7, y11, w9, c10, f10, hr10, hy10, hfz10, hw5, c11, hrN, c11', c11a, hr11, hy11, hfz11, hw9, hQ⟩ := hO.ex
    clear hO
    have HQ := hid hQ
    have H1 := hid (And.intro c11 (And.intro hrN (And.intro c11' (And.intro c11a (And.intro hr11 (And.intro hy11 (And.intro hfz11 hw9)))))))
    clear hQ c11 hrN c11' c11a hr11 hy11 hfz11 hw9 hodd
    go_upto_region 28 with (at_builtin; refine wpList_append3 rfl (.tmp 203) (.tmp 205) 64 rfl _ _ rfl rfl _ _ hr10 ?_)
    rw [← hw5]
    clear hw5 hr10 c10 f10 hy10 hfz10 o12' htm
    obtain ⟨c11, hrN, c11', c11a, hr11, hy11, hfz11, hw9⟩ := H1.out
    clear H1
    refine wp_region_held_drew (S := fun _ => True) (by kernel_rfl) trivial (fun hHeld => ?_)
    generalize w5.drew = we at *
    refine wpAnyH_take (i := 0) (oi := ⟨some 209, _, _, _, _, _⟩) (v := (.pointer (some ⟨P, 0, none⟩))) rfl (by kernel_rfl) (by kernel_rfl) (by kernel_rfl) (fun _ _ _ h => h) (Or.inl ⟨by rfl, ?_⟩) (by assumption) ?_
    · intro W hSW; go_simp
    simp only [Act.put, List.setIfInBounds_toArray, List.set_cons_zero, List.set_cons_succ]
    refine wpAnyH_take (i := 1) (oi := ⟨some 210, _, _, _, _, _⟩) (v := (.pointer (some ⟨P, 0, none⟩))) rfl (by kernel_rfl) (by kernel_rfl) (by kernel_rfl) (fun _ _ _ h => h) (Or.inl ⟨by rfl, ?_⟩) (by assumption) ?_
    · intro W hSW; go_simp
    simp only [Act.put, List.setIfInBounds_toArray, List.set_cons_zero, List.set_cons_succ]
    refine wpAnyH_take (i := 2) (oi := ⟨some 211, _, _, _, _, _⟩) (v := (.pointer (some ⟨P, 0, none⟩))) rfl (by kernel_rfl) (by kernel_rfl) (by kernel_rfl) (fun _ _ _ h => h) (Or.inl ⟨by rfl, ?_⟩) (by assumption) ?_
    · intro W hSW; go_simp
    simp only [Act.put, List.setIfInBounds_toArray, List.set_cons_zero, List.set_cons_succ]
    refine wpAnyH_take (i := 3) (oi := ⟨some 212, _, _, _, _, _⟩) (v := (.pointer (some ⟨P, 11, none⟩))) rfl (by kernel_rfl) (by kernel_rfl) (by kernel_rfl) (fun _ _ _ h => h) (Or.inl ⟨by rfl, ?_⟩) (by assumption) ?_
    · intro W hSW; go_simp
    simp only [Act.put, List.setIfInBounds_toArray, List.set_cons_zero, List.set_cons_succ]
    refine wpAnyH_take (i := 5) (oi := ⟨some 214, _, _, _, _, _⟩) (v := (.slice s.p s.n s.c)) rfl (by kernel_rfl) (by kernel_rfl) (by kernel_rfl) (fun _ _ _ h => h) (Or.inl ⟨by rfl, ?_⟩) (by assumption) ?_
    · intro W hSW; go_simp
    simp only [Act.put, List.setIfInBounds_toArray, List.set_cons_zero, List.set_cons_succ]
    refine wpAnyH_ready (rs := [4, 6]) (by kernel_rfl) (by simp) ?_
    refine AllReadyH.cons rfl (fun KK hKK => ?_) (AllReadyH.cons rfl (fun KK hKK => ?_) AllReadyH.nil)
    · go_simp
      refine hKK.out _ _ trivial (fun hHeld => ?_)
      clear hKK KK
      refine wpAnyH_ready (rs := [6]) (by kernel_rfl) (by simp) ?_
      refine AllReadyH.cons rfl (fun KK hKK => ?_) AllReadyH.nil
      refine step_app2 (o := ⟨some 215, _, _, _, _, _⟩) rfl (.const (.slice none 0 0)) (.tmp 214) 65 65 rfl _ _ rfl rfl _ _ hrN ?_
      refine hKK.out _ _ trivial (fun hHeld => ?_)
      clear hKK KK
      refine wpAnyH_ready (rs := [7]) (by kernel_rfl) (by simp) ?_
      refine AllReadyH.cons rfl (fun KK hKK => ?_) AllReadyH.nil
      go_simp
      refine hKK.out _ _ trivial (fun hHeld => ?_)
      clear hKK KK
      refine wpAnyH_ready (rs := [8]) (by kernel_rfl) (by simp) ?_
      refine AllReadyH.cons rfl (fun KK hKK => ?_) AllReadyH.nil
      refine step_app2 (o := ⟨some 217, _, _, _, _, _⟩) rfl (.tmp 213) (.tmp 216) 64 64 rfl _ _ rfl rfl _ _ hr11 ?_
      refine hKK.out _ _ trivial (fun hHeld => ?_)
      clear hKK KK
      refine wpAnyH_take (i := 9) (oi := ⟨some 218, _, _, _, _, _⟩) (v := (.pointer (some ⟨P, 0, none⟩))) rfl (by kernel_rfl) (by kernel_rfl) (by kernel_rfl) (fun _ _ _ h => h) (Or.inl ⟨by rfl, ?_⟩) (by assumption) ?_
      · intro W hSW; go_simp
      simp only [Act.put, List.setIfInBounds_toArray, List.set_cons_zero, List.set_cons_succ]
      refine wpAnyH_take (i := 10) (oi := ⟨some 219, _, _, _, _, _⟩) (v := (.pointer (some ⟨P, 11, none⟩))) rfl (by kernel_rfl) (by kernel_rfl) (by kernel_rfl) (fun _ _ _ h => h) (Or.inl ⟨by rfl, ?_⟩) (by assumption) ?_
      · intro W hSW; go_simp
      simp only [Act.put, List.setIfInBounds_toArray, List.set_cons_zero, List.set_cons_succ]
      refine wpAnyH_ready (rs := [11]) (by kernel_rfl) (by simp) ?_
      refine AllReadyH.cons rfl (fun KK hKK => ?_) AllReadyH.nil
      go_simp
      rw [← hw9]
      refine hKK.out _ _ trivial (fun hHeld => ?_)
      clear hKK KK
      refine wpAnyH_done (by kernel_rfl) ?_ _
      go_wp2
      go_ret
      exact ⟨rfl, HQ.out⟩
    · refine step_app2 (o := ⟨some 215, _, _, _, _, _⟩) rfl (.const (.slice none 0 0)) (.tmp 214) 65 65 rfl _ _ rfl rfl _ _ hrN ?_
      refine hKK.out _ _ trivial (fun hHeld => ?_)
      clear hKK KK
      refine wpAnyH_ready (rs := [4, 7]) (by kernel_rfl) (by simp) ?_
      refine AllReadyH.cons rfl (fun KK hKK => ?_) (AllReadyH.cons rfl (fun KK hKK => ?_) AllReadyH.nil)
      · go_simp
        refine hKK.out _ _ trivial (fun hHeld => ?_)
        clear hKK KK
        refine wpAnyH_ready (rs := [7]) (by kernel_rfl) (by simp) ?_
        refine AllReadyH.cons rfl (fun KK hKK => ?_) AllReadyH.nil
        go_simp
        refine hKK.out _ _ trivial (fun hHeld => ?_)
        clear hKK KK
        refine wpAnyH_ready (rs := [8]) (by kernel_rfl) (by simp) ?_
        refine AllReadyH.cons rfl (fun KK hKK => ?_) AllReadyH.nil
        refine step_app2 (o := ⟨some 217, _, _, _, _, _⟩) rfl (.tmp 213) (.tmp 216) 64 64 rfl _ _ rfl rfl _ _ hr11 ?_
        refine hKK.out _ _ trivial (fun hHeld => ?_)
        clear hKK KK
        refine wpAnyH_take (i := 9) (oi := ⟨some 218, _, _, _, _, _⟩) (v := (.pointer (some ⟨P, 0, none⟩))) rfl (by kernel_rfl) (by kernel_rfl) (by kernel_rfl) (fun _ _ _ h => h) (Or.inl ⟨by rfl, ?_⟩) (by assumption) ?_
        · intro W hSW; go_simp
        simp only [Act.put, List.setIfInBounds_toArray, List.set_cons_zero, List.set_cons_succ]
        refine wpAnyH_take (i := 10) (oi := ⟨some 219, _, _, _, _, _⟩) (v := (.pointer (some ⟨P, 11, none⟩))) rfl (by kernel_rfl) (by kernel_rfl) (by kernel_rfl) (fun _ _ _ h => h) (Or.inl ⟨by rfl, ?_⟩) (by assumption) ?_
        · intro W hSW; go_simp
        simp only [Act.put, List.setIfInBounds_toArray, List.set_cons_zero, List.set_cons_succ]
        refine wpAnyH_ready (rs := [11]) (by kernel_rfl) (by simp) ?_
        refine AllReadyH.cons rfl (fun KK hKK => ?_) AllReadyH.nil
        go_simp
        rw [← hw9]
        refine hKK.out _ _ trivial (fun hHeld => ?_)
        clear hKK KK
        refine wpAnyH_done (by kernel_rfl) ?_ _
        go_wp2
        go_ret
        exact ⟨rfl, HQ.out⟩
      · go_simp
        refine hKK.out _ _ trivial (fun hHeld => ?_)
        clear hKK KK
        refine wpAnyH_ready (rs := [4]) (by kernel_rfl) (by simp) ?_
        refine AllReadyH.cons rfl (fun KK hKK => ?_) AllReadyH.nil
        go_simp
        refine hKK.out _ _ trivial (fun hHeld => ?_)
        clear hKK KK
        refine wpAnyH_ready (rs := [8]) (by kernel_rfl) (by simp) ?_
        refine AllReadyH.cons rfl (fun KK hKK => ?_) AllReadyH.nil
        refine step_app2 (o := ⟨some 217, _, _, _, _, _⟩) rfl (.tmp 213) (.tmp 216) 64 64 rfl _ _ rfl rfl _ _ hr11 ?_
        refine hKK.out _ _ trivial (fun hHeld => ?_)
        clear hKK KK
        refine wpAnyH_take (i := 9) (oi := ⟨some 218, _, _, _, _, _⟩) (v := (.pointer (some ⟨P, 0, none⟩))) rfl (by kernel_rfl) (by kernel_rfl) (by kernel_rfl) (fun _ _ _ h => h) (Or.inl ⟨by rfl, ?_⟩) (by assumption) ?_
        · intro W hSW; go_simp
        simp only [Act.put, List.setIfInBounds_toArray, List.set_cons_zero, List.set_cons_succ]
        refine wpAnyH_take (i := 10) (oi := ⟨some 219, _, _, _, _, _⟩) (v := (.pointer (some ⟨P, 11, none⟩))) rfl (by kernel_rfl) (by kernel_rfl) (by kernel_rfl) (fun _ _ _ h => h) (Or.inl ⟨by rfl, ?_⟩) (by assumption) ?_
        · intro W hSW; go_simp
        simp only [Act.put, List.setIfInBounds_toArray, List.set_cons_zero, List.set_cons_succ]
        refine wpAnyH_ready (rs := [11]) (by kernel_rfl) (by simp) ?_
        refine AllReadyH.cons rfl (fun KK hKK => ?_) AllReadyH.nil
        go_simp
        rw [← hw9]
        refine hKK.out _ _ trivial (fun hHeld => ?_)
        clear hKK KK
        refine wpAnyH_done (by kernel_rfl) ?_ _
        go_wp2
        go_ret
        exact ⟨rfl, HQ.out⟩
  · have htm : ¬ ((t : Int) + 1).tmod 2 = 1 := by rw [Int.tmod_eq_emod_of_nonneg (by omega)]; omega
    have hE := HEV.out (by omega)
    clear HOD HEV
    go_wp2_with fail
    refine hE.mono ?_
    clear hE
    rintro _ w9 ⟨rfl, hQ⟩
    have HQ := hid hQ
    clear hQ
    dsimp only
    go_wp2
    go_ret
    exact ⟨rfl, HQ.out⟩
theorem plays_to {wa w : World} {P : Nat} {p : Px} {who : Nat → Option Nat} {K : Nat} (h : PQ wa w P p who p.x.cof) (hi : PI p K) (hK : K ≤ 50000) (o : OpC) (hk : o.k = 9) : Calls Try.prog 25 #[.pointer (some ⟨P, 0, none⟩), o.agg] w fun r w' => r = .returned (.bool true) ∧ PlPost wa w w' P p who K := by
  have m := (h.mid0.alloc (boxO o)).drew
  have ht := hi.turns
  have hmk := hi.mark
  have hnm := hi.nm
  refine walk_to (t := p.turns) (gb := p.b.g) (gr := p.r.g) hk (by omega) (m.sp (by simp)) ?_
  have hle := h.bt.b.le
  obtain ⟨l, hl⟩ : ∃ l, l = tos o.i p.xs p.b.s.n := ⟨_, rfl⟩
  have hll : l.length ≤ 100000 := by
    rw [hl]; unfold tos
    have := List.length_filter_le (fun j => decide ((gT p.xs j).t = o.i)) (List.range p.b.s.n)
    simp at this ⊢
    omega
  refine (to_ok m.q.bt.b o.i).mono (fun r w1 hh => ?_)
  rw [← hl] at hh
  obtain ⟨s, rfl, hsn, nw⟩ := hh.ex
  have m1 := m.kept nw.ap
  have m1d := m1.drew
  refine ⟨s, rfl, m1.sp (by simp), m1d.sp (by simp), ?_⟩
  refine (rto_ok m1d.q.rt.b o.i).mono (fun r w2 hh => ?_)
  have e : p.r.s.n = p.b.s.n := by rw [← h.bt.b.xl, ← h.rt.b.xl, hi.xy.1]
  rw [hi.xy.1, e, ← hl] at hh
  obtain ⟨s2, rfl, hsn2, nw2⟩ := hh.ex
  have m2 := m1d.kept nw2.ap
  have nd := nw.kept ((Apart.refl [] w1).drew)
  have n2 := nd.kept nw2.ap
  refine ⟨s2, rfl, m2.sp (by simp), ?_⟩
  refine (same_yes s s2 l w2 n2.rd nw2.rd (by omega) (by omega) hll).mono (fun r w3 hh => ?_)
  obtain ⟨rfl, a3⟩ := hh
  have m3 := m2.kept a3
  have n3 := n2.kept a3
  refine ⟨rfl, m3.sp (by simp), ?_⟩
  have hP := m3.q.turn (p.turns + 1)
  have hPw : who P = some 0 := m3.q.sm.wS
  have hfree : ∀ k, s.v.ownBlock = some k → w.heap.size ≤ k ∧ who k = none := fun k hk => ⟨Nat.le_trans m.sz (nw.new k hk), m.q.free (nw.new k hk)⟩
  have aP : Apart [P] w3 (w3.setCell ⟨P, 12, none⟩ (.int .i64 ((p.turns : Int) + 1))) := (Apart.refl [P] w3).setCell (by simp) _
  have sP : Stp w (w3.setCell ⟨P, 12, none⟩ (.int .i64 ((p.turns : Int) + 1))) who who none := m3.st.trans (Stp.row aP (fun k hk => by simp at hk; subst hk; left; rw [hPw]; simp))
  have oP := own_apart n3.own aP (fun k hk hm => by simp at hm; subst hm; have := (hfree _ hk).2; rw [hPw] at this; cases this)
  have u := hi.up2
  refine ⟨(m3.q.sm.oth).2.2.2.2.1, (m3.q.sm.oth).2.2.2.2.2 12, (hP.sm.oth).2.2.2.2.1, fun hodd => ?_, fun hodd => ?_⟩
  · have := to_odd (K := K + 1) (p := { p with turns := p.turns + 1 }) (l := l) hP sP h.ap.size oP (by omega) hfree (by dsimp only; omega) hll (fun s' => ⟨u.xy, u.cb, u.room, by dsimp only; omega, u.mark, u.kb, u.ki, u.km, u.lf, by simp; omega, u.ll, fun e he => by
      dsimp only at he
      rcases List.mem_append.1 he with he | he
      · exact u.nl e he
      · simp at he; subst he; exact hll⟩)
    refine ⟨?_⟩
    obtain ⟨a1, a2, a3, a4, a5, a6, a7, a8, a9, b1, b2, b3, b4, b5, b6, b7, b8, b9, c1, c2, c3, c4, c5, c6, c7, c8, c9, d1, d2, d3, d4, d5, hQ⟩ := this.ex
    exact ⟨a1, a2, a3, a4, a5, a6, a7, a8, a9, b1, b2, b3, b4, b5, b6, b7, b8, b9, c1, c2, c3, c4, c5, c6, c7, c8, c9, d1, d2, d3, d4, d5, ⟨hQ⟩⟩
  · refine (keepInts_ok hP s _ oP (fun k hk => ⟨(hfree k hk).2, Nat.le_trans h.ap.size (hfree k hk).1⟩) (by omega) (by dsimp only; omega) u.ki).mono (fun r w' hh => ?_)
    obtain ⟨rfl, hh⟩ := hh
    obtain ⟨who', X, hq, w1, w2, a, hX⟩ := hh.ex
    have hs : Stp (w3.setCell ⟨P, 12, none⟩ (.int .i64 ((p.turns : Int) + 1))) w' who who' s.v.ownBlock := ⟨w1, w2, X, a, fun k hk => by rcases hX k hk with e | e | e; exact .inl e; exact .inr (.inr e); exact .inr (.inl e)⟩
    refine ⟨rfl, who', _, hq, ⟨u.xy, u.cb, u.room, by dsimp only; omega, by dsimp only; omega, u.kb, push6_len u.ki, fun e he => ?_, u.lf, u.nm, u.ll, u.nl⟩, rfl, sP.fin hs (fun b hb => (hfree b hb).1)⟩
    rcases push6_mem he with he | rfl
    · exact u.km e he
    · dsimp only; omega
end Go.Proofs.Ytiakcfjbnlibfaa.nt
