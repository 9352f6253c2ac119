import Derived.Test.YtddffdcjhleejaaGreatG32
namespace Go.Proofs.YtddffdcjhleejaaGreat.ds
open Go.ChangeShapes Go.WideShapes Go.ChangeAt Go.RowKit Go.Sort
set_option linter.unusedVariables false
set_option linter.unusedSimpArgs false
/-- what Decode answers -/
structure DeP {α : Type} (w w' : World) (e : Ending) (r : Except Nat (α × Nat)) (z : Value) (V : α → Value → World → Prop) : Prop where
  ap : Apart [] w w'
  ok : ∀ a q, r = .ok (a, q) → ∃ v, e = .returned (.tuple #[v, .int .i64 0, .int .i64 0]) ∧ V a v w'
  no : ∀ x, r = .error x → e = .returned (.tuple #[z, .int .i64 (x : Nat), .int .i64 60])
theorem OwnE.base {w w0 w' : World} {s : Sl} {es : List E} (h : OwnE w0 w' s es) (a : Apart [] w w0) : OwnE w w' s es := { h with nw := h.nw.base a }
theorem FL.base {w w0 w' : World} {s : Sl} {es : List E} {rs : List Wr} (h : FL w0 w' s es rs) (a : Apart [] w w0) : FL w w' s es rs := ⟨h.own.base a, h.len, fun j hj => (h.fr j hj).base a⟩
theorem VMsg.base {w w0 w' : World} {a : Mg} {v : Value} (h : VMsg w0 a v w') (ap : Apart [] w w0) : VMsg w a v w' := by
  obtain ⟨m, es, h1, h2, ⟨s, hs, h3, h4⟩, h5⟩ := h
  exact ⟨m, es, h1, h2, ⟨s, hs, h3.base ap, h4⟩, h5.base ap⟩
set_option maxHeartbeats 8000000 in
set_option maxRecDepth 100000 in
/-- Decode -/
theorem decode_ok {w : World} {p : Option Addr} {N c : Nat} {B : List Nat} (h : Dat w p N c B) :
    Calls Tryz.prog 10 #[.slice p N c] w fun e w' => DeP w w' e (rmsg B 0) (.agg MM.z.cs) (VMsg w) := by
  obtain ⟨w0, hw0⟩ : ∃ w0, w0 = w.alloc (.cells #[Value.int IntKind.i64 0, Value.int IntKind.i64 0, Value.int IntKind.i64 0, Value.int IntKind.i64 0, Value.int IntKind.i64 0, Value.int IntKind.i64 0, Value.string { data := #[] }, Value.int IntKind.i64 0, Value.int IntKind.i64 0, Value.slice none 0 0, Value.slice none 0 0] 29) := ⟨_, rfl⟩
  obtain ⟨G, HG⟩ : ∃ G, Hid (G = w.heap.size) := ⟨_, rfl⟩
  have a0 : Apart [] w w0 := by rw [hw0]; exact (Apart.refl [] w).alloc _
  have g0 : w0.heap[G]? = some (.cells MM.z.cs 29 (0, 0)) := by rw [HG.out, hw0]; exact heap_alloc_new w _
  have HA0 := hid a0
  have HG0 := hid g0
  have HC := hid (read_msg (h.kept a0) 0 (Nat.zero_le _))
  clear h a0 g0
  go_enter Tryz.func10, Tryz.ntmps10
  go_wp2_with fail
  rw [← hw0, ← HG.out]
  clear hw0
  refine HC.out.mono ?_
  rintro e w1 hP
  have HP := hid hP
  have HA1 := hid (HA0.out.trans hP.ap)
  have HG1 := hid ((hP.ap.block _ (lt_of_heap HG0.out) (by simp)).trans HG0.out)
  cases hr : rmsg B 0 with
  | error x =>
    have he := HP.out.no x hr
    subst he
    have HR := hid hr
    clear hr hP
    unfold MM.cs MM.z
    try dsimp only
    obtain ⟨w3, Hw3⟩ : ∃ w3, Hid (w3 = w1.alloc (.cells #[.int .i64 0, .int .i64 0, .int .i64 0, .int .i64 0, .int .i64 0, .int .i64 0, .string ⟨#[]⟩, .int .i64 0, .int .i64 0, .slice none 0 0, .slice none 0 0] 29)) := ⟨_, rfl⟩
    obtain ⟨D, HD⟩ : ∃ D, Hid (D = w1.heap.size) := ⟨_, rfl⟩
    have HS3 : Hid (Apart [] w1 w3) := by unfold Hid; rw [Hw3.out]; exact (Apart.refl [] w1).alloc _
    have HD3 : Hid (w3.heap[D]? = some (.cells MM.z.cs 29 (0, 0))) := by unfold Hid; rw [HD.out, Hw3.out]; exact heap_alloc_new w1 _
    have HG3 := hid ((HS3.out.block _ (lt_of_heap HG1.out) (by simp)).trans HG1.out)
    have hGD : G ≠ D := by have := lt_of_heap HG1.out; have := HD.out; omega
    obtain ⟨w4, Hw4⟩ : ∃ w4, Hid (w4 = (((((((((((w3.setCell ⟨G, 0, none⟩ (.int .i64 0)).setCell ⟨G, 1, none⟩ (.int .i64 0)).setCell ⟨G, 2, none⟩ (.int .i64 0)).setCell ⟨G, 3, none⟩ (.int .i64 0)).setCell ⟨G, 4, none⟩ (.int .i64 0)).setCell ⟨G, 5, none⟩ (.int .i64 0)).setCell ⟨G, 6, none⟩ (.string ⟨#[]⟩)).setCell ⟨G, 7, none⟩ (.int .i64 0)).setCell ⟨G, 8, none⟩ (.int .i64 0)).setCell ⟨G, 9, none⟩ (.slice none 0 0)).setCell ⟨G, 10, none⟩ (.slice none 0 0))) := ⟨_, rfl⟩
    have HG4 : Hid (w4.heap[G]? = some (.cells MM.z.cs 29 (0, 0))) := by
      unfold Hid
      rw [Hw4.out]
      have h1 := heap_setCell_same w3 G 0 _ 29 (.int .i64 0) HG3.out
      have h2 := heap_setCell_same _ G 1 _ 29 (.int .i64 0) h1
      have h3 := heap_setCell_same _ G 2 _ 29 (.int .i64 0) h2
      have h4 := heap_setCell_same _ G 3 _ 29 (.int .i64 0) h3
      have h5 := heap_setCell_same _ G 4 _ 29 (.int .i64 0) h4
      have h6 := heap_setCell_same _ G 5 _ 29 (.int .i64 0) h5
      have h7 := heap_setCell_same _ G 6 _ 29 (.string ⟨#[]⟩) h6
      have h8 := heap_setCell_same _ G 7 _ 29 (.int .i64 0) h7
      have h9 := heap_setCell_same _ G 8 _ 29 (.int .i64 0) h8
      have h10 := heap_setCell_same _ G 9 _ 29 (.slice none 0 0) h9
      have h11 := heap_setCell_same _ G 10 _ 29 (.slice none 0 0) h10
      simpa [MM.cs, MM.z] using h11
    have HS4 : Hid (Apart [G] w3 w4) := by unfold Hid; rw [Hw4.out]; exact ((((((((((((Apart.refl _ _).setCell (.inl (by simp)) _).setCell (.inl (by simp)) _).setCell (.inl (by simp)) _).setCell (.inl (by simp)) _).setCell (.inl (by simp)) _).setCell (.inl (by simp)) _).setCell (.inl (by simp)) _).setCell (.inl (by simp)) _).setCell (.inl (by simp)) _).setCell (.inl (by simp)) _).setCell (.inl (by simp)) _)
    have HD4 := hid (keepB HS4.out HD3.out (lt_of_heap HD3.out) (by omega))
    have HDn : Hid (w.heap.size ≤ D) := by unfold Hid; have := HA1.out.size; have := HD.out; omega
    have HA4 : Hid (Apart [] w w4) := by
      have b3 := HA1.out.trans HS3.out
      exact b3.trans' HS4.out (by intro y hy; simp at hy; rw [hy]; have := HG.out; exact .inr (by omega))
    have HP4 : Hid (DeP w w4 (.returned (.tuple #[.agg MM.z.cs, .int .i64 (x : Nat), .int .i64 60])) (rmsg B 0) (.agg MM.z.cs) (VMsg w)) := ⟨HA4.out, fun a q' h => (by rw [HR.out] at h; cases h), fun y h => (by rw [HR.out] at h; cases h; rfl)⟩
    go_upto_region 2 with fail
    rw [← Hw3.out, ← HD.out]
    have z0 : w3.cell? ⟨D, 0, none⟩ = some (.int .i64 0) := crow HD3.out 0 _ rfl
    have zf0 := frozen_of_row _ _ 0 _ _ HD3.out
    have z1 : w3.cell? ⟨D, 1, none⟩ = some (.int .i64 0) := crow HD3.out 1 _ rfl
    have zf1 := frozen_of_row _ _ 1 _ _ HD3.out
    have z2 : w3.cell? ⟨D, 2, none⟩ = some (.int .i64 0) := crow HD3.out 2 _ rfl
    have zf2 := frozen_of_row _ _ 2 _ _ HD3.out
    have z3 : w3.cell? ⟨D, 3, none⟩ = some (.int .i64 0) := crow HD3.out 3 _ rfl
    have zf3 := frozen_of_row _ _ 3 _ _ HD3.out
    have z4 : w3.cell? ⟨D, 4, none⟩ = some (.int .i64 0) := crow HD3.out 4 _ rfl
    have zf4 := frozen_of_row _ _ 4 _ _ HD3.out
    have z5 : w3.cell? ⟨D, 5, none⟩ = some (.int .i64 0) := crow HD3.out 5 _ rfl
    have zf5 := frozen_of_row _ _ 5 _ _ HD3.out
    have z6 : w3.cell? ⟨D, 6, none⟩ = some (.string ⟨#[]⟩) := crow HD3.out 6 _ rfl
    have zf6 := frozen_of_row _ _ 6 _ _ HD3.out
    have z7 : w3.cell? ⟨D, 7, none⟩ = some (.int .i64 0) := crow HD3.out 7 _ rfl
    have zf7 := frozen_of_row _ _ 7 _ _ HD3.out
    have z8 : w3.cell? ⟨D, 8, none⟩ = some (.int .i64 0) := crow HD3.out 8 _ rfl
    have zf8 := frozen_of_row _ _ 8 _ _ HD3.out
    have z9 : w3.cell? ⟨D, 9, none⟩ = some (.slice none 0 0) := crow HD3.out 9 _ rfl
    have zf9 := frozen_of_row _ _ 9 _ _ HD3.out
    have z10 : w3.cell? ⟨D, 10, none⟩ = some (.slice none 0 0) := crow HD3.out 10 _ rfl
    have zf10 := frozen_of_row _ _ 10 _ _ HD3.out
    have y0 : w3.cell? ⟨G, 0, none⟩ = _ := crow HG3.out 0 _ rfl
    have yf0 := frozen_of_row _ _ 0 _ _ HG3.out
    have y1 : w3.cell? ⟨G, 1, none⟩ = _ := crow HG3.out 1 _ rfl
    have yf1 := frozen_of_row _ _ 1 _ _ HG3.out
    have y2 : w3.cell? ⟨G, 2, none⟩ = _ := crow HG3.out 2 _ rfl
    have yf2 := frozen_of_row _ _ 2 _ _ HG3.out
    have y3 : w3.cell? ⟨G, 3, none⟩ = _ := crow HG3.out 3 _ rfl
    have yf3 := frozen_of_row _ _ 3 _ _ HG3.out
    have y4 : w3.cell? ⟨G, 4, none⟩ = _ := crow HG3.out 4 _ rfl
    have yf4 := frozen_of_row _ _ 4 _ _ HG3.out
    have y5 : w3.cell? ⟨G, 5, none⟩ = _ := crow HG3.out 5 _ rfl
    have yf5 := frozen_of_row _ _ 5 _ _ HG3.out
    have y6 : w3.cell? ⟨G, 6, none⟩ = _ := crow HG3.out 6 _ rfl
    have yf6 := frozen_of_row _ _ 6 _ _ HG3.out
    have y7 : w3.cell? ⟨G, 7, none⟩ = _ := crow HG3.out 7 _ rfl
    have yf7 := frozen_of_row _ _ 7 _ _ HG3.out
    have y8 : w3.cell? ⟨G, 8, none⟩ = _ := crow HG3.out 8 _ rfl
    have yf8 := frozen_of_row _ _ 8 _ _ HG3.out
    have y9 : w3.cell? ⟨G, 9, none⟩ = _ := crow HG3.out 9 _ rfl
    have yf9 := frozen_of_row _ _ 9 _ _ HG3.out
    have y10 : w3.cell? ⟨G, 10, none⟩ = _ := crow HG3.out 10 _ rfl
    have yf10 := frozen_of_row _ _ 10 _ _ HG3.out
    go_wp2_with fail
    rw [← Hw4.out]
    clear z0 zf0 z1 zf1 z2 zf2 z3 zf3 z4 zf4 z5 zf5 z6 zf6 z7 zf7 z8 zf8 z9 zf9 z10 zf10
    clear y0 yf0 y1 yf1 y2 yf2 y3 yf3 y4 yf4 y5 yf5 y6 yf6 y7 yf7 y8 yf8 y9 yf9 y10 yf10
    have c0 : w4.cell? ⟨G, 0, none⟩ = some (.int .i64 0) := crow HG4.out 0 _ rfl
    have c1 : w4.cell? ⟨G, 1, none⟩ = some (.int .i64 0) := crow HG4.out 1 _ rfl
    have c2 : w4.cell? ⟨G, 2, none⟩ = some (.int .i64 0) := crow HG4.out 2 _ rfl
    have c3 : w4.cell? ⟨G, 3, none⟩ = some (.int .i64 0) := crow HG4.out 3 _ rfl
    have c4 : w4.cell? ⟨G, 4, none⟩ = some (.int .i64 0) := crow HG4.out 4 _ rfl
    have c5 : w4.cell? ⟨G, 5, none⟩ = some (.int .i64 0) := crow HG4.out 5 _ rfl
    have c6 : w4.cell? ⟨G, 6, none⟩ = some (.string ⟨#[]⟩) := crow HG4.out 6 _ rfl
    have c7 : w4.cell? ⟨G, 7, none⟩ = some (.int .i64 0) := crow HG4.out 7 _ rfl
    have c8 : w4.cell? ⟨G, 8, none⟩ = some (.int .i64 0) := crow HG4.out 8 _ rfl
    have c9 : w4.cell? ⟨G, 9, none⟩ = some (.slice none 0 0) := crow HG4.out 9 _ rfl
    have c10 : w4.cell? ⟨G, 10, none⟩ = some (.slice none 0 0) := crow HG4.out 10 _ rfl
    refine bodyPost_ret (v := .tuple #[.agg MM.z.cs, .int .i64 (x : Nat), .int .i64 60]) ?_ rfl HP4.out
    simp [results, Tryz.results10, go_sem, MM.cs, MM.z, c0, c1, c2, c3, c4, c5, c6, c7, c8, c9, c10]
  | ok t =>
    obtain ⟨a, q'⟩ := t
    obtain ⟨v, he, hv⟩ := HP.out.ok a q' hr
    subst he
    have HR := hid hr
    have HV := hid hv
    obtain ⟨m, es, hs, -⟩ := hv
    subst hs
    clear hr hP
    unfold MM.cs
    try dsimp only
    obtain ⟨w3, Hw3⟩ : ∃ w3, Hid (w3 = w1.alloc (.cells #[.int .i64 (m.kind : Nat), .int .i64 (m.frm : Nat), .int .i64 (m.dst : Nat), .int .i64 (m.call : Nat), .int .i64 (m.rng : Nat), .int .i64 (m.own : Nat), .string m.key, .int .i64 (m.dn : Nat), .int .i64 (m.dc : Nat), .slice m.set.p m.set.n m.set.c, .slice m.ws.p m.ws.n m.ws.c] 29)) := ⟨_, rfl⟩
    obtain ⟨D, HD⟩ : ∃ D, Hid (D = w1.heap.size) := ⟨_, rfl⟩
    have HS3 : Hid (Apart [] w1 w3) := by unfold Hid; rw [Hw3.out]; exact (Apart.refl [] w1).alloc _
    have HD3 : Hid (w3.heap[D]? = some (.cells m.cs 29 (0, 0))) := by unfold Hid; rw [HD.out, Hw3.out]; exact heap_alloc_new w1 _
    have HG3 := hid ((HS3.out.block _ (lt_of_heap HG1.out) (by simp)).trans HG1.out)
    have hGD : G ≠ D := by have := lt_of_heap HG1.out; have := HD.out; omega
    obtain ⟨w4, Hw4⟩ : ∃ w4, Hid (w4 = (((((((((((w3.setCell ⟨G, 0, none⟩ (.int .i64 (m.kind : Nat))).setCell ⟨G, 1, none⟩ (.int .i64 (m.frm : Nat))).setCell ⟨G, 2, none⟩ (.int .i64 (m.dst : Nat))).setCell ⟨G, 3, none⟩ (.int .i64 (m.call : Nat))).setCell ⟨G, 4, none⟩ (.int .i64 (m.rng : Nat))).setCell ⟨G, 5, none⟩ (.int .i64 (m.own : Nat))).setCell ⟨G, 6, none⟩ (.string m.key)).setCell ⟨G, 7, none⟩ (.int .i64 (m.dn : Nat))).setCell ⟨G, 8, none⟩ (.int .i64 (m.dc : Nat))).setCell ⟨G, 9, none⟩ (.slice m.set.p m.set.n m.set.c)).setCell ⟨G, 10, none⟩ (.slice m.ws.p m.ws.n m.ws.c))) := ⟨_, rfl⟩
    have HG4 : Hid (w4.heap[G]? = some (.cells m.cs 29 (0, 0))) := by
      unfold Hid
      rw [Hw4.out]
      have h1 := heap_setCell_same w3 G 0 _ 29 (.int .i64 (m.kind : Nat)) HG3.out
      have h2 := heap_setCell_same _ G 1 _ 29 (.int .i64 (m.frm : Nat)) h1
      have h3 := heap_setCell_same _ G 2 _ 29 (.int .i64 (m.dst : Nat)) h2
      have h4 := heap_setCell_same _ G 3 _ 29 (.int .i64 (m.call : Nat)) h3
      have h5 := heap_setCell_same _ G 4 _ 29 (.int .i64 (m.rng : Nat)) h4
      have h6 := heap_setCell_same _ G 5 _ 29 (.int .i64 (m.own : Nat)) h5
      have h7 := heap_setCell_same _ G 6 _ 29 (.string m.key) h6
      have h8 := heap_setCell_same _ G 7 _ 29 (.int .i64 (m.dn : Nat)) h7
      have h9 := heap_setCell_same _ G 8 _ 29 (.int .i64 (m.dc : Nat)) h8
      have h10 := heap_setCell_same _ G 9 _ 29 (.slice m.set.p m.set.n m.set.c) h9
      have h11 := heap_setCell_same _ G 10 _ 29 (.slice m.ws.p m.ws.n m.ws.c) h10
      simpa [MM.cs, MM.z] using h11
    have HS4 : Hid (Apart [G] w3 w4) := by unfold Hid; rw [Hw4.out]; exact ((((((((((((Apart.refl _ _).setCell (.inl (by simp)) _).setCell (.inl (by simp)) _).setCell (.inl (by simp)) _).setCell (.inl (by simp)) _).setCell (.inl (by simp)) _).setCell (.inl (by simp)) _).setCell (.inl (by simp)) _).setCell (.inl (by simp)) _).setCell (.inl (by simp)) _).setCell (.inl (by simp)) _).setCell (.inl (by simp)) _)
    have HD4 := hid (keepB HS4.out HD3.out (lt_of_heap HD3.out) (by omega))
    have HDn : Hid (w.heap.size ≤ D) := by unfold Hid; have := HA1.out.size; have := HD.out; omega
    have HA4 : Hid (Apart [] w w4) := by
      have b3 := HA1.out.trans HS3.out
      exact b3.trans' HS4.out (by intro y hy; simp at hy; rw [hy]; have := HG.out; exact .inr (by omega))
    have HP4 : Hid (DeP w w4 (.returned (.tuple #[.agg m.cs, .int .i64 0, .int .i64 0])) (rmsg B 0) (.agg MM.z.cs) (VMsg w)) := ⟨HA4.out, fun a' q2 h => (by rw [HR.out] at h; cases h; exact ⟨_, rfl, ((HV.out.base HA0.out).oth (X := G) (HS3.out.mono (by simp)) HG1.out (by decide) (by have := HG.out; omega)).oth HS4.out HG3.out (by decide) (by have := HG.out; omega)⟩), fun y h => (by rw [HR.out] at h; cases h)⟩
    go_upto_region 2 with fail
    rw [← Hw3.out, ← HD.out]
    have z0 : w3.cell? ⟨D, 0, none⟩ = some (.int .i64 (m.kind : Nat)) := crow HD3.out 0 _ rfl
    have zf0 := frozen_of_row _ _ 0 _ _ HD3.out
    have z1 : w3.cell? ⟨D, 1, none⟩ = some (.int .i64 (m.frm : Nat)) := crow HD3.out 1 _ rfl
    have zf1 := frozen_of_row _ _ 1 _ _ HD3.out
    have z2 : w3.cell? ⟨D, 2, none⟩ = some (.int .i64 (m.dst : Nat)) := crow HD3.out 2 _ rfl
    have zf2 := frozen_of_row _ _ 2 _ _ HD3.out
    have z3 : w3.cell? ⟨D, 3, none⟩ = some (.int .i64 (m.call : Nat)) := crow HD3.out 3 _ rfl
    have zf3 := frozen_of_row _ _ 3 _ _ HD3.out
    have z4 : w3.cell? ⟨D, 4, none⟩ = some (.int .i64 (m.rng : Nat)) := crow HD3.out 4 _ rfl
    have zf4 := frozen_of_row _ _ 4 _ _ HD3.out
    have z5 : w3.cell? ⟨D, 5, none⟩ = some (.int .i64 (m.own : Nat)) := crow HD3.out 5 _ rfl
    have zf5 := frozen_of_row _ _ 5 _ _ HD3.out
    have z6 : w3.cell? ⟨D, 6, none⟩ = some (.string m.key) := crow HD3.out 6 _ rfl
    have zf6 := frozen_of_row _ _ 6 _ _ HD3.out
    have z7 : w3.cell? ⟨D, 7, none⟩ = some (.int .i64 (m.dn : Nat)) := crow HD3.out 7 _ rfl
    have zf7 := frozen_of_row _ _ 7 _ _ HD3.out
    have z8 : w3.cell? ⟨D, 8, none⟩ = some (.int .i64 (m.dc : Nat)) := crow HD3.out 8 _ rfl
    have zf8 := frozen_of_row _ _ 8 _ _ HD3.out
    have z9 : w3.cell? ⟨D, 9, none⟩ = some (.slice m.set.p m.set.n m.set.c) := crow HD3.out 9 _ rfl
    have zf9 := frozen_of_row _ _ 9 _ _ HD3.out
    have z10 : w3.cell? ⟨D, 10, none⟩ = some (.slice m.ws.p m.ws.n m.ws.c) := crow HD3.out 10 _ rfl
    have zf10 := frozen_of_row _ _ 10 _ _ HD3.out
    have y0 : w3.cell? ⟨G, 0, none⟩ = _ := crow HG3.out 0 _ rfl
    have yf0 := frozen_of_row _ _ 0 _ _ HG3.out
    have y1 : w3.cell? ⟨G, 1, none⟩ = _ := crow HG3.out 1 _ rfl
    have yf1 := frozen_of_row _ _ 1 _ _ HG3.out
    have y2 : w3.cell? ⟨G, 2, none⟩ = _ := crow HG3.out 2 _ rfl
    have yf2 := frozen_of_row _ _ 2 _ _ HG3.out
    have y3 : w3.cell? ⟨G, 3, none⟩ = _ := crow HG3.out 3 _ rfl
    have yf3 := frozen_of_row _ _ 3 _ _ HG3.out
    have y4 : w3.cell? ⟨G, 4, none⟩ = _ := crow HG3.out 4 _ rfl
    have yf4 := frozen_of_row _ _ 4 _ _ HG3.out
    have y5 : w3.cell? ⟨G, 5, none⟩ = _ := crow HG3.out 5 _ rfl
    have yf5 := frozen_of_row _ _ 5 _ _ HG3.out
    have y6 : w3.cell? ⟨G, 6, none⟩ = _ := crow HG3.out 6 _ rfl
    have yf6 := frozen_of_row _ _ 6 _ _ HG3.out
    have y7 : w3.cell? ⟨G, 7, none⟩ = _ := crow HG3.out 7 _ rfl
    have yf7 := frozen_of_row _ _ 7 _ _ HG3.out
    have y8 : w3.cell? ⟨G, 8, none⟩ = _ := crow HG3.out 8 _ rfl
    have yf8 := frozen_of_row _ _ 8 _ _ HG3.out
    have y9 : w3.cell? ⟨G, 9, none⟩ = _ := crow HG3.out 9 _ rfl
    have yf9 := frozen_of_row _ _ 9 _ _ HG3.out
    have y10 : w3.cell? ⟨G, 10, none⟩ = _ := crow HG3.out 10 _ rfl
    have yf10 := frozen_of_row _ _ 10 _ _ HG3.out
    go_wp2_with fail
    rw [← Hw4.out]
    clear z0 zf0 z1 zf1 z2 zf2 z3 zf3 z4 zf4 z5 zf5 z6 zf6 z7 zf7 z8 zf8 z9 zf9 z10 zf10
    clear y0 yf0 y1 yf1 y2 yf2 y3 yf3 y4 yf4 y5 yf5 y6 yf6 y7 yf7 y8 yf8 y9 yf9 y10 yf10
    have c0 : w4.cell? ⟨G, 0, none⟩ = some (.int .i64 (m.kind : Nat)) := crow HG4.out 0 _ rfl
    have c1 : w4.cell? ⟨G, 1, none⟩ = some (.int .i64 (m.frm : Nat)) := crow HG4.out 1 _ rfl
    have c2 : w4.cell? ⟨G, 2, none⟩ = some (.int .i64 (m.dst : Nat)) := crow HG4.out 2 _ rfl
    have c3 : w4.cell? ⟨G, 3, none⟩ = some (.int .i64 (m.call : Nat)) := crow HG4.out 3 _ rfl
    have c4 : w4.cell? ⟨G, 4, none⟩ = some (.int .i64 (m.rng : Nat)) := crow HG4.out 4 _ rfl
    have c5 : w4.cell? ⟨G, 5, none⟩ = some (.int .i64 (m.own : Nat)) := crow HG4.out 5 _ rfl
    have c6 : w4.cell? ⟨G, 6, none⟩ = some (.string m.key) := crow HG4.out 6 _ rfl
    have c7 : w4.cell? ⟨G, 7, none⟩ = some (.int .i64 (m.dn : Nat)) := crow HG4.out 7 _ rfl
    have c8 : w4.cell? ⟨G, 8, none⟩ = some (.int .i64 (m.dc : Nat)) := crow HG4.out 8 _ rfl
    have c9 : w4.cell? ⟨G, 9, none⟩ = some (.slice m.set.p m.set.n m.set.c) := crow HG4.out 9 _ rfl
    have c10 : w4.cell? ⟨G, 10, none⟩ = some (.slice m.ws.p m.ws.n m.ws.c) := crow HG4.out 10 _ rfl
    refine bodyPost_ret (v := .tuple #[.agg m.cs, .int .i64 0, .int .i64 0]) ?_ rfl HP4.out
    simp [results, Tryz.results10, go_sem, MM.cs, MM.z, c0, c1, c2, c3, c4, c5, c6, c7, c8, c9, c10]
end Go.Proofs.YtddffdcjhleejaaGreat.ds
namespace Go.Proofs.YtddffdcjhleejaaGreat.ds
open Go.ChangeShapes Go.WideShapes Go.ChangeAt Go.RowKit Go.Sort
set_option linter.unusedVariables false
set_option linter.unusedSimpArgs false
set_option maxHeartbeats 8000000 in
set_option maxRecDepth 100000 in
/-- read at a place that is none -/
theorem read_set_bad (w : World) (p : Option Addr) (N c : Nat) (q : Int) (hN : N ≤ 1000000) (hq : q < 0 ∨ (N : Int) < q) :
    Calls Tryz.prog 53 #[.slice p N c, .int .i64 q, .func (.func 54) #[] #[]] w fun e w' => Apart [] w w' ∧ e = .returned (.tuple #[.slice none 0 0, .int .i64 0, .int .i64 1]) := by
  have sa : w.heap.size = w.heap.size := rfl
  obtain ⟨wb, Hwb⟩ : ∃ wb, Hid (wb = w.alloc (.cells #[.int .i64 0] 3)) := ⟨_, rfl⟩
  have sb : wb.heap.size = w.heap.size + 1 := by rw [Hwb.out]; simp
  obtain ⟨wc, Hwc⟩ : ∃ wc, Hid (wc = wb.alloc (.cells #[.int .i64 1] 40)) := ⟨_, rfl⟩
  have HAb : Hid (Apart [] w wb) := by unfold Hid; rw [Hwb.out]; exact (Apart.refl [] w).alloc _
  have HAc : Hid (Apart [] wb wc) := by unfold Hid; rw [Hwc.out]; exact (Apart.refl [] wb).alloc _
  have HTb : Hid (wb.heap[w.heap.size]? = some (.cells #[.int .i64 0] 3 (0, 0))) := by unfold Hid; rw [Hwb.out]; exact heap_alloc_new w _
  have HUc : Hid (wc.heap[w.heap.size + 1]? = some (.cells #[.int .i64 1] 40 (0, 0))) := by unfold Hid; rw [← sb, Hwc.out]; exact heap_alloc_new wb _
  have HTc := hid ((HAc.out.block _ (lt_of_heap HTb.out) (by simp)).trans HTb.out)
  have HP : Hid (Apart [] w wc) := HAb.out.trans HAc.out
  clear sa sb
  go_enter_defers Tryz.func53, Tryz.ntmps53
  by_cases h0 : q < 0
  · go_wp2_with fail
    rw [← Hwb.out, ← Hwc.out]
    have ce : wc.cell? ⟨w.heap.size, 0, none⟩ = some (.int .i64 0) := by rw [cell_of_row _ _ _ _ _ _ HTc.out]; rfl
    have cf : wc.cell? ⟨w.heap.size + 1, 0, none⟩ = some (.int .i64 1) := by rw [cell_of_row _ _ _ _ _ _ HUc.out]; rfl
    simp [bodyPostD, Leaves, results, Tryz.results53, go_sem, ce, cf]
    exact HP.out
  · have h1 : q > (N : Int) := by omega
    go_wp2_with fail
    rw [← Hwb.out, ← Hwc.out]
    have ce : wc.cell? ⟨w.heap.size, 0, none⟩ = some (.int .i64 0) := by rw [cell_of_row _ _ _ _ _ _ HTc.out]; rfl
    have cf : wc.cell? ⟨w.heap.size + 1, 0, none⟩ = some (.int .i64 1) := by rw [cell_of_row _ _ _ _ _ _ HUc.out]; rfl
    simp [bodyPostD, Leaves, results, Tryz.results53, go_sem, ce, cf]
    exact HP.out
set_option maxHeartbeats 8000000 in
set_option maxRecDepth 100000 in
/-- read at a place that is none -/
theorem read_wr_bad (w : World) (p : Option Addr) (N c : Nat) (q : Int) (hN : N ≤ 1000000) (hq : q < 0 ∨ (N : Int) < q) :
    Calls Tryz.prog 57 #[.slice p N c, .int .i64 q, .func (.func 58) #[] #[]] w fun e w' => Apart [] w w' ∧ e = .returned (.tuple #[.agg zE, .int .i64 0, .int .i64 1]) := by
  obtain ⟨wa, Hwa⟩ : ∃ wa, Hid (wa = w.alloc (.cells #[Value.int IntKind.i64 0, Value.int IntKind.i64 0, Value.string { data := #[] }, Value.bool false, Value.slice none 0 0, Value.slice none 0 0] 37)) := ⟨_, rfl⟩
  have HAa : Hid (Apart [] w wa) := by unfold Hid; rw [Hwa.out]; exact (Apart.refl [] w).alloc _
  have HZa : Hid (wa.heap[w.heap.size]? = some (.cells zE 37 (0, 0))) := by unfold Hid; rw [Hwa.out]; exact heap_alloc_new w _
  have sa : wa.heap.size = w.heap.size + 1 := by rw [Hwa.out]; simp
  obtain ⟨wb, Hwb⟩ : ∃ wb, Hid (wb = wa.alloc (.cells #[.int .i64 0] 3)) := ⟨_, rfl⟩
  have sb : wb.heap.size = w.heap.size + 1 + 1 := by rw [Hwb.out]; simp [sa]
  obtain ⟨wc, Hwc⟩ : ∃ wc, Hid (wc = wb.alloc (.cells #[.int .i64 1] 40)) := ⟨_, rfl⟩
  have HAb : Hid (Apart [] wa wb) := by unfold Hid; rw [Hwb.out]; exact (Apart.refl [] wa).alloc _
  have HAc : Hid (Apart [] wb wc) := by unfold Hid; rw [Hwc.out]; exact (Apart.refl [] wb).alloc _
  have HTb : Hid (wb.heap[w.heap.size + 1]? = some (.cells #[.int .i64 0] 3 (0, 0))) := by unfold Hid; rw [← sa, Hwb.out]; exact heap_alloc_new wa _
  have HUc : Hid (wc.heap[w.heap.size + 1 + 1]? = some (.cells #[.int .i64 1] 40 (0, 0))) := by unfold Hid; rw [← sb, Hwc.out]; exact heap_alloc_new wb _
  have HTc := hid ((HAc.out.block _ (lt_of_heap HTb.out) (by simp)).trans HTb.out)
  have HZc := hid ((((HAb.out.trans HAc.out)).block _ (lt_of_heap HZa.out) (by simp)).trans HZa.out)
  have HP : Hid (Apart [] w wc) := HAa.out.trans (HAb.out.trans HAc.out)
  clear sa sb
  go_enter_defers Tryz.func57, Tryz.ntmps57
  by_cases h0 : q < 0
  · go_wp2_with fail
    rw [← Hwa.out, ← Hwb.out, ← Hwc.out]
    have c0 : wc.cell? ⟨w.heap.size, 0, none⟩ = some (.int .i64 0) := crow HZc.out 0 _ rfl
    have c1 : wc.cell? ⟨w.heap.size, 1, none⟩ = some (.int .i64 0) := crow HZc.out 1 _ rfl
    have c2 : wc.cell? ⟨w.heap.size, 2, none⟩ = some (.string ⟨#[]⟩) := crow HZc.out 2 _ rfl
    have c3 : wc.cell? ⟨w.heap.size, 3, none⟩ = some (.bool false) := crow HZc.out 3 _ rfl
    have c4 : wc.cell? ⟨w.heap.size, 4, none⟩ = some (.slice none 0 0) := crow HZc.out 4 _ rfl
    have c5 : wc.cell? ⟨w.heap.size, 5, none⟩ = some (.slice none 0 0) := crow HZc.out 5 _ rfl
    have ce : wc.cell? ⟨w.heap.size + 1, 0, none⟩ = some (.int .i64 0) := by rw [cell_of_row _ _ _ _ _ _ HTc.out]; rfl
    have cf : wc.cell? ⟨w.heap.size + 1 + 1, 0, none⟩ = some (.int .i64 1) := by rw [cell_of_row _ _ _ _ _ _ HUc.out]; rfl
    simp [bodyPostD, Leaves, results, Tryz.results57, go_sem, ce, cf, zE, c0, c1, c2, c3, c4, c5]
    exact HP.out
  · have h1 : q > (N : Int) := by omega
    go_wp2_with fail
    rw [← Hwa.out, ← Hwb.out, ← Hwc.out]
    have c0 : wc.cell? ⟨w.heap.size, 0, none⟩ = some (.int .i64 0) := crow HZc.out 0 _ rfl
    have c1 : wc.cell? ⟨w.heap.size, 1, none⟩ = some (.int .i64 0) := crow HZc.out 1 _ rfl
    have c2 : wc.cell? ⟨w.heap.size, 2, none⟩ = some (.string ⟨#[]⟩) := crow HZc.out 2 _ rfl
    have c3 : wc.cell? ⟨w.heap.size, 3, none⟩ = some (.bool false) := crow HZc.out 3 _ rfl
    have c4 : wc.cell? ⟨w.heap.size, 4, none⟩ = some (.slice none 0 0) := crow HZc.out 4 _ rfl
    have c5 : wc.cell? ⟨w.heap.size, 5, none⟩ = some (.slice none 0 0) := crow HZc.out 5 _ rfl
    have ce : wc.cell? ⟨w.heap.size + 1, 0, none⟩ = some (.int .i64 0) := by rw [cell_of_row _ _ _ _ _ _ HTc.out]; rfl
    have cf : wc.cell? ⟨w.heap.size + 1 + 1, 0, none⟩ = some (.int .i64 1) := by rw [cell_of_row _ _ _ _ _ _ HUc.out]; rfl
    simp [bodyPostD, Leaves, results, Tryz.results57, go_sem, ce, cf, zE, c0, c1, c2, c3, c4, c5]
    exact HP.out
end Go.Proofs.YtddffdcjhleejaaGreat.ds
namespace Go.Proofs.YtddffdcjhleejaaGreat.ds
open Go.ChangeShapes Go.WideShapes Go.ChangeAt Go.RowKit Go.Sort
set_option linter.unusedVariables false
set_option linter.unusedSimpArgs false
set_option maxHeartbeats 8000000 in
set_option maxRecDepth 100000 in
/-- GetSet at a place that is none -/
theorem getSet_bad (w : World) (p : Option Addr) (N c : Nat) (q : Int) (hN : N ≤ 1000000) (hq : q < 0 ∨ (N : Int) < q) :
    Calls Tryz.prog 24 #[.slice p N c, .int .i64 q] w fun e w' => Apart [] w w' ∧ e = .returned (.tuple #[.slice none 0 0, .int .i64 0, .int .i64 1]) := by
  have HC := hid (read_set_bad w p N c q hN hq)
  clear hN hq
  go_enter Tryz.func24, Tryz.ntmps24
  go_wp2_with fail
  refine HC.out.mono ?_
  rintro e w1 ⟨ap1, he⟩
  have HP := hid ap1
  subst he
  clear ap1
  try dsimp only
  go_wp2_with fail
  go_ret3
  exact ⟨HP.out, rfl⟩
set_option maxHeartbeats 8000000 in
set_option maxRecDepth 100000 in
/-- GetWrite at a place that is none -/
theorem getWrite_bad (w : World) (p : Option Addr) (N c : Nat) (q : Int) (hN : N ≤ 1000000) (hq : q < 0 ∨ (N : Int) < q) :
    Calls Tryz.prog 29 #[.slice p N c, .int .i64 q] w fun e w' => Apart [] w w' ∧ e = .returned (.tuple #[.agg zE, .int .i64 0, .int .i64 1]) := by
  obtain ⟨w0, hw0⟩ : ∃ w0, w0 = w.alloc (.cells #[Value.int IntKind.i64 0, Value.int IntKind.i64 0, Value.string { data := #[] }, Value.bool false, Value.slice none 0 0, Value.slice none 0 0] 37) := ⟨_, rfl⟩
  obtain ⟨G, HG⟩ : ∃ G, Hid (G = w.heap.size) := ⟨_, rfl⟩
  have a0 : Apart [] w w0 := by rw [hw0]; exact (Apart.refl [] w).alloc _
  have g0 : w0.heap[G]? = some (.cells zE 37 (0, 0)) := by rw [HG.out, hw0]; exact heap_alloc_new w _
  have HA0 := hid a0
  have HG0 := hid g0
  have HC := hid (read_wr_bad w0 p N c q hN hq)
  clear hN hq a0 g0
  go_enter Tryz.func29, Tryz.ntmps29
  go_wp2_with fail
  rw [← hw0, ← HG.out]
  clear hw0
  refine HC.out.mono ?_
  rintro e w1 ⟨ap1, he⟩
  have HA1 := hid (HA0.out.trans ap1)
  have HG1 := hid ((ap1.block _ (lt_of_heap HG0.out) (by simp)).trans HG0.out)
  subst he
  clear ap1
  have hone : True := trivial
  · unfold zE
    try dsimp only
    have z0 : w1.cell? ⟨G, 0, none⟩ = _ := crow HG1.out 0 _ rfl
    have y0 := frozen_of_row _ _ 0 _ _ HG1.out
    have z1 : w1.cell? ⟨G, 1, none⟩ = _ := crow HG1.out 1 _ rfl
    have y1 := frozen_of_row _ _ 1 _ _ HG1.out
    have z2 : w1.cell? ⟨G, 2, none⟩ = _ := crow HG1.out 2 _ rfl
    have y2 := frozen_of_row _ _ 2 _ _ HG1.out
    have z3 : w1.cell? ⟨G, 3, none⟩ = _ := crow HG1.out 3 _ rfl
    have y3 := frozen_of_row _ _ 3 _ _ HG1.out
    have z4 : w1.cell? ⟨G, 4, none⟩ = _ := crow HG1.out 4 _ rfl
    have y4 := frozen_of_row _ _ 4 _ _ HG1.out
    have z5 : w1.cell? ⟨G, 5, none⟩ = _ := crow HG1.out 5 _ rfl
    have y5 := frozen_of_row _ _ 5 _ _ HG1.out
    obtain ⟨w2, Hw2⟩ : ∃ w2, Hid (w2 = ((((((w1.setCell ⟨G, 0, none⟩ (.int .i64 0)).setCell ⟨G, 1, none⟩ (.int .i64 0)).setCell ⟨G, 2, none⟩ (.string ⟨#[]⟩)).setCell ⟨G, 3, none⟩ (.bool false)).setCell ⟨G, 4, none⟩ (.slice none 0 0)).setCell ⟨G, 5, none⟩ (.slice none 0 0))) := ⟨_, rfl⟩
    have HG2 : Hid (w2.heap[G]? = some (.cells zE 37 (0, 0))) := by
      unfold Hid
      rw [Hw2.out]
      have h1 := heap_setCell_same w1 G 0 _ 37 (.int .i64 0) HG1.out
      have h2 := heap_setCell_same _ G 1 _ 37 (.int .i64 0) h1
      have h3 := heap_setCell_same _ G 2 _ 37 (.string ⟨#[]⟩) h2
      have h4 := heap_setCell_same _ G 3 _ 37 (.bool false) h3
      have h5 := heap_setCell_same _ G 4 _ 37 (.slice none 0 0) h4
      have h6 := heap_setCell_same _ G 5 _ 37 (.slice none 0 0) h5
      simpa [zE, E.cs, Sl.v] using h6
    have HS2 : Hid (Apart [G] w1 w2) := by unfold Hid; rw [Hw2.out]; exact (((((((Apart.refl _ _).setCell (.inl (by simp)) _).setCell (.inl (by simp)) _).setCell (.inl (by simp)) _).setCell (.inl (by simp)) _).setCell (.inl (by simp)) _).setCell (.inl (by simp)) _)
    have HA2 : Hid (Apart [] w w2) := HA1.out.trans' HS2.out (by intro y hy; simp at hy; rw [hy]; have := HG.out; exact .inr (by omega))
    have HP2 : Hid (Apart [] w w2 ∧ (Ending.returned (.tuple #[.agg zE, .int .i64 0, .int .i64 1])) = .returned (.tuple #[.agg zE, .int .i64 0, .int .i64 1])) := ⟨HA2.out, rfl⟩
    go_wp2_with fail
    rw [← Hw2.out]
    clear z0 y0 z1 y1 z2 y2 z3 y3 z4 y4 z5 y5
    have c0 : w2.cell? ⟨G, 0, none⟩ = some (.int .i64 0) := crow HG2.out 0 _ rfl
    have c1 : w2.cell? ⟨G, 1, none⟩ = some (.int .i64 0) := crow HG2.out 1 _ rfl
    have c2 : w2.cell? ⟨G, 2, none⟩ = some (.string ⟨#[]⟩) := crow HG2.out 2 _ rfl
    have c3 : w2.cell? ⟨G, 3, none⟩ = some (.bool false) := crow HG2.out 3 _ rfl
    have c4 : w2.cell? ⟨G, 4, none⟩ = some (.slice none 0 0) := crow HG2.out 4 _ rfl
    have c5 : w2.cell? ⟨G, 5, none⟩ = some (.slice none 0 0) := crow HG2.out 5 _ rfl
    refine bodyPost_ret (v := .tuple #[.agg zE, .int .i64 0, .int .i64 1]) ?_ rfl ⟨HA2.out, rfl⟩
    simp [results, Tryz.results29, go_sem, zE, E.cs, Sl.v, c0, c1, c2, c3, c4, c5]
end Go.Proofs.YtddffdcjhleejaaGreat.ds
