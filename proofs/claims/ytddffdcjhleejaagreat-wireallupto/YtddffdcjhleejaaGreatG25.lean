import Derived.Test.YtddffdcjhleejaaGreatG13
import Derived.Defers
import Derived.Recover
import Derived.Laws.Pointers
import Derived.Deep.RegionHeld3
namespace Go.Proofs.YtddffdcjhleejaaGreat.ds
open Go.ChangeShapes Go.WideShapes Go.ChangeAt Go.RowKit Go.Sort
set_option linter.unusedVariables false
set_option linter.unusedSimpArgs false
set_option maxRecDepth 100000
theorem catch76_idle (p1 p2 : Addr) (w : World) :
    CallsD Tryz.prog 63 #[.pointer (some p1), .pointer (some p2)] .returning w fun e u' w' => e = .returned (.tuple #[]) ∧ u' = .returning ∧ w' = w := by
  refine callsD_of_wpS Tryz.func63 rfl fun c₀ cs hu => ?_
  apply wpS_seq
  apply wpS_region
  simp [wpOpsS, go_sem, recoverD, hu, Tryz.ntmps63, Exit.thenS]
  apply wpS_seq
  apply wpS_region
  simp [wpOpsS, go_sem, Exit.thenS]
  refine wpS_cond (t := false) (by simp [Act.eval, Array.replicate]) ?_
  simp only [Bool.false_eq_true, if_false]
  refine wpS_of_wp (wp_skip ?_)
  cases c₀
  simp_all [bodyPostS, results, Tryz.results63, Exit.thenS]
theorem catch76_panicking (p1 p2 : Addr) (x : Nat) (v1 v2 : Value) (w : World) (h1 : w.cell? p1 = some v1) (f1 : w.frozen? p1 = false) (h2 : w.cell? p2 = some v2) (f2 : w.frozen? p2 = false) (hne : p1.block ≠ p2.block) :
    CallsD Tryz.prog 63 #[.pointer (some p1), .pointer (some p2)] (.panicking [{ v := .iface 116 (.int .i64 (x : Nat)), recovered := false }]) w fun e u' w' =>
      e = .returned (.tuple #[]) ∧ u' = .panicking [{ v := .iface 116 (.int .i64 (x : Nat)), recovered := true }] ∧ w' = (w.setCell p1 (.int .i64 (x : Nat))).setCell p2 (.int .i64 60) := by
  refine callsD_of_wpS Tryz.func63 rfl fun c₀ cs hu => ?_
  apply wpS_seq
  apply wpS_region
  simp [wpOpsS, go_sem, recoverD, hu, Tryz.ntmps63, Exit.thenS]
  apply wpS_seq
  apply wpS_region
  simp [wpOpsS, go_sem, Exit.thenS]
  refine wpS_cond (t := true) (by simp [Act.eval, Array.replicate]) ?_
  simp only [if_true]
  have hta : ∀ w : World, Sem.run Tryz.prog (Instr.typeAssert (.iface 116 (.int .i64 (x : Nat))) 20 116 false) w = .ok (.int .i64 (x : Nat)) w := fun w => by kernel_rfl
  have h2b : (w.setCell p1 (.int .i64 (x : Nat))).cell? p2 = some v2 := (World.cell?_setCell_far w p1 p2 _ hne).trans h2
  apply wpS_region
  simp [wpOpsS, go_sem, h1, f1, h2, f2, h2b, hta, bodyPostS, results, Tryz.results63]
theorem catch95_idle (p1 p2 : Addr) (w : World) :
    CallsD Tryz.prog 93 #[.pointer (some p1), .pointer (some p2)] .returning w fun e u' w' => e = .returned (.tuple #[]) ∧ u' = .returning ∧ w' = w := by
  refine callsD_of_wpS Tryz.func93 rfl fun c₀ cs hu => ?_
  apply wpS_seq
  apply wpS_region
  simp [wpOpsS, go_sem, recoverD, hu, Tryz.ntmps93, Exit.thenS]
  apply wpS_seq
  apply wpS_region
  simp [wpOpsS, go_sem, Exit.thenS]
  refine wpS_cond (t := false) (by simp [Act.eval, Array.replicate]) ?_
  simp only [Bool.false_eq_true, if_false]
  refine wpS_of_wp (wp_skip ?_)
  cases c₀
  simp_all [bodyPostS, results, Tryz.results93, Exit.thenS]
theorem catch95_panicking (p1 p2 : Addr) (x : Nat) (v1 v2 : Value) (w : World) (h1 : w.cell? p1 = some v1) (f1 : w.frozen? p1 = false) (h2 : w.cell? p2 = some v2) (f2 : w.frozen? p2 = false) (hne : p1.block ≠ p2.block) :
    CallsD Tryz.prog 93 #[.pointer (some p1), .pointer (some p2)] (.panicking [{ v := .iface 116 (.int .i64 (x : Nat)), recovered := false }]) w fun e u' w' =>
      e = .returned (.tuple #[]) ∧ u' = .panicking [{ v := .iface 116 (.int .i64 (x : Nat)), recovered := true }] ∧ w' = (w.setCell p1 (.int .i64 (x : Nat))).setCell p2 (.int .i64 60) := by
  refine callsD_of_wpS Tryz.func93 rfl fun c₀ cs hu => ?_
  apply wpS_seq
  apply wpS_region
  simp [wpOpsS, go_sem, recoverD, hu, Tryz.ntmps93, Exit.thenS]
  apply wpS_seq
  apply wpS_region
  simp [wpOpsS, go_sem, Exit.thenS]
  refine wpS_cond (t := true) (by simp [Act.eval, Array.replicate]) ?_
  simp only [if_true]
  have hta : ∀ w : World, Sem.run Tryz.prog (Instr.typeAssert (.iface 116 (.int .i64 (x : Nat))) 20 116 false) w = .ok (.int .i64 (x : Nat)) w := fun w => by kernel_rfl
  have h2b : (w.setCell p1 (.int .i64 (x : Nat))).cell? p2 = some v2 := (World.cell?_setCell_far w p1 p2 _ hne).trans h2
  apply wpS_region
  simp [wpOpsS, go_sem, h1, f1, h2, f2, h2b, hta, bodyPostS, results, Tryz.results93]
theorem catch97_idle (p1 p2 : Addr) (w : World) :
    CallsD Tryz.prog 89 #[.pointer (some p1), .pointer (some p2)] .returning w fun e u' w' => e = .returned (.tuple #[]) ∧ u' = .returning ∧ w' = w := by
  refine callsD_of_wpS Tryz.func89 rfl fun c₀ cs hu => ?_
  apply wpS_seq
  apply wpS_region
  simp [wpOpsS, go_sem, recoverD, hu, Tryz.ntmps89, Exit.thenS]
  apply wpS_seq
  apply wpS_region
  simp [wpOpsS, go_sem, Exit.thenS]
  refine wpS_cond (t := false) (by simp [Act.eval, Array.replicate]) ?_
  simp only [Bool.false_eq_true, if_false]
  refine wpS_of_wp (wp_skip ?_)
  cases c₀
  simp_all [bodyPostS, results, Tryz.results89, Exit.thenS]
theorem catch97_panicking (p1 p2 : Addr) (x : Nat) (v1 v2 : Value) (w : World) (h1 : w.cell? p1 = some v1) (f1 : w.frozen? p1 = false) (h2 : w.cell? p2 = some v2) (f2 : w.frozen? p2 = false) (hne : p1.block ≠ p2.block) :
    CallsD Tryz.prog 89 #[.pointer (some p1), .pointer (some p2)] (.panicking [{ v := .iface 116 (.int .i64 (x : Nat)), recovered := false }]) w fun e u' w' =>
      e = .returned (.tuple #[]) ∧ u' = .panicking [{ v := .iface 116 (.int .i64 (x : Nat)), recovered := true }] ∧ w' = (w.setCell p1 (.int .i64 (x : Nat))).setCell p2 (.int .i64 60) := by
  refine callsD_of_wpS Tryz.func89 rfl fun c₀ cs hu => ?_
  apply wpS_seq
  apply wpS_region
  simp [wpOpsS, go_sem, recoverD, hu, Tryz.ntmps89, Exit.thenS]
  apply wpS_seq
  apply wpS_region
  simp [wpOpsS, go_sem, Exit.thenS]
  refine wpS_cond (t := true) (by simp [Act.eval, Array.replicate]) ?_
  simp only [if_true]
  have hta : ∀ w : World, Sem.run Tryz.prog (Instr.typeAssert (.iface 116 (.int .i64 (x : Nat))) 20 116 false) w = .ok (.int .i64 (x : Nat)) w := fun w => by kernel_rfl
  have h2b : (w.setCell p1 (.int .i64 (x : Nat))).cell? p2 = some v2 := (World.cell?_setCell_far w p1 p2 _ hne).trans h2
  apply wpS_region
  simp [wpOpsS, go_sem, h1, f1, h2, f2, h2b, hta, bodyPostS, results, Tryz.results89]
end Go.Proofs.YtddffdcjhleejaaGreat.ds
namespace Go.Proofs.YtddffdcjhleejaaGreat.ds
open Go.ChangeShapes Go.WideShapes Go.ChangeAt Go.RowKit Go.Sort
set_option linter.unusedVariables false
set_option linter.unusedSimpArgs false
/-- bytes that were handed in -/
structure Dat (w : World) (p : Option Addr) (N c : Nat) (B : List Nat) : Prop where
  rd : Rd w p (byts B)
  len : B.length = N
  lim : N ≤ 1000000
  cap : N ≤ c
  ok : p = none → N = 0 ∧ c = 0
  lt : ∀ P o, p = some ⟨P, o, none⟩ → P < w.heap.size
  b8 : ∀ b ∈ B, b < 256
theorem Dat.reader {w wx : World} {p : Option Addr} {N c : Nat} {B : List Nat} (h : Dat w p N c B) {R at' : Nat} (a : Apart [] w wx) (hR : wx.heap[R]? = some (.cells #[.slice p N c, .int .i64 (at' : Nat)] 115 (0, 0))) (hn : w.heap.size ≤ R) (ha : at' ≤ N) : RB w wx R p N c B at' :=
  ⟨hR, h.rd.kept0 a, h.len, h.lim, ha, h.cap, h.lt, h.b8, h.ok, a, hn⟩
theorem VMsg.oth {wB w w' : World} {a : Mg} {v : Value} {X : Nat} {cur : Array Value} {t : Nat} (h : VMsg wB a v w) (ap : Apart [X] w w') (hX : w.heap[X]? = some (.cells cur t (0, 0))) (ht : t ≠ 5 ∧ t ≠ 48 ∧ t ≠ 37) (hn : wB.heap.size ≤ X) : VMsg wB a v w' := by
  obtain ⟨m, es, h1, h2, ⟨s, hs, h3, h4⟩, h5⟩ := h
  exact ⟨m, es, h1, h2, ⟨s, hs, h3.oth ap hX ht.2.1 hn, h4⟩, h5.oth ap hX ht hn⟩
/-- what read answers -/
structure RdP {α : Type} (w w' : World) (e : Ending) (r : Except Nat (α × Nat)) (z : Value) (V : α → Value → World → Prop) : Prop where
  ap : Apart [] w w'
  ok : ∀ a q, r = .ok (a, q) → ∃ v, e = .returned (.tuple #[v, .int .i64 (q : Nat), .int .i64 0]) ∧ V a v w'
  no : ∀ x, r = .error x → e = .returned (.tuple #[z, .int .i64 (x : Nat), .int .i64 60])
set_option maxHeartbeats 8000000 in
set_option maxRecDepth 100000 in
theorem read_msg {w : World} {p : Option Addr} {N c : Nat} {B : List Nat} (h : Dat w p N c B) (q : Nat) (hq : q ≤ N) :
    Calls Tryz.prog 33 #[.slice p N c, .int .i64 (q : Nat), .func (.func 34) #[] #[]] w fun e w' => RdP w w' e (rmsg B q) (.agg MM.z.cs) (VMsg w) := by
  have hmf : ∀ (fn : Fn) (first cap : Array Value) (w : World), (Instr.makeFunc fn first cap).run Tryz.prog w = .ok (.func fn first cap) w := fun _ _ _ _ => rfl
  have HDt := hid h
  have hl := h.lim
  have hq0 : ¬ ((q : Nat) : Int) < 0 := by omega
  have hqN : ¬ ((q : Nat) : Int) > (N : Int) := by omega
  obtain ⟨wa, hwa⟩ : ∃ wa, wa = w.alloc (.cells #[Value.int IntKind.i64 0, Value.int IntKind.i64 0, Value.int IntKind.i64 0, Value.int IntKind.i64 0, Value.int IntKind.i64 0, Value.int IntKind.i64 0, Value.string { data := #[] }, Value.int IntKind.i64 0, Value.int IntKind.i64 0, Value.slice none 0 0, Value.slice none 0 0] 29) := ⟨_, rfl⟩
  obtain ⟨wb, hwb⟩ : ∃ wb, wb = wa.alloc (.cells #[.int .i64 0] 3) := ⟨_, rfl⟩
  obtain ⟨wc, hwc⟩ : ∃ wc, wc = wb.alloc (.cells #[.int .i64 0] 40) := ⟨_, rfl⟩
  obtain ⟨w4, hw4⟩ : ∃ w4, w4 = wc.alloc (.cells #[.slice p N c, .int .i64 (q : Nat)] 115) := ⟨_, rfl⟩
  obtain ⟨G, HG⟩ : ∃ G, Hid (G = w.heap.size) := ⟨_, rfl⟩
  have sa : wa.heap.size = G + 1 := by rw [hwa, HG.out]; simp
  have sb : wb.heap.size = G + 1 + 1 := by rw [hwb]; simp [sa]
  have sc : wc.heap.size = G + 1 + 1 + 1 := by rw [hwc]; simp [sb]
  have aa : Apart [] w wa := by rw [hwa]; exact (Apart.refl [] w).alloc _
  have ab : Apart [] wa wb := by rw [hwb]; exact (Apart.refl [] wa).alloc _
  have ac : Apart [] wb wc := by rw [hwc]; exact (Apart.refl [] wb).alloc _
  have ad : Apart [] wc w4 := by rw [hw4]; exact (Apart.refl [] wc).alloc _
  have g1 : wa.heap[G]? = some (.cells MM.z.cs 29 (0, 0)) := by rw [HG.out, hwa]; exact heap_alloc_new w _
  have g2 : wb.heap[G + 1]? = some (.cells #[.int .i64 0] 3 (0, 0)) := by rw [← sa, hwb]; exact heap_alloc_new wa _
  have g3 : wc.heap[G + 1 + 1]? = some (.cells #[.int .i64 0] 40 (0, 0)) := by rw [← sb, hwc]; exact heap_alloc_new wb _
  have g4 : w4.heap[G + 1 + 1 + 1]? = some (.cells #[.slice p N c, .int .i64 (q : Nat)] 115 (0, 0)) := by rw [← sc, hw4]; exact heap_alloc_new wc _
  have HG4 : Hid (w4.heap[G]? = some (.cells MM.z.cs 29 (0, 0))) := ((ab.trans (ac.trans ad)).block _ (lt_of_heap g1) (by simp)).trans g1
  have HE4 : Hid (w4.heap[G + 1]? = some (.cells #[.int .i64 0] 3 (0, 0))) := ((ac.trans ad).block _ (lt_of_heap g2) (by simp)).trans g2
  have HF4 : Hid (w4.heap[G + 1 + 1]? = some (.cells #[.int .i64 0] 40 (0, 0))) := (ad.block _ (lt_of_heap g3) (by simp)).trans g3
  have HA4 : Hid (Apart [] w w4) := aa.trans (ab.trans (ac.trans ad))
  have HRB := hid (HDt.out.reader HA4.out g4 (by have := HG.out; omega) hq)
  clear h aa ab ac ad g1 g2 g3 g4 sa sb sc
  rw [hwc, hwb, hwa] at hw4
  clear hwa hwb hwc
  go_enter_defers Tryz.func33, Tryz.ntmps33
  go_wp2_with fail
  rw [← hw4, ← HG.out]
  clear hw4
  refine (message_ok HRB.out).mono ?_
  rintro e w5 ⟨ha, hm⟩
  have HS5 := hid ha
  have HG5 := hid (keepB ha HG4.out (lt_of_heap HG4.out) (by omega))
  have HE5 := hid (keepB ha HE4.out (lt_of_heap HE4.out) (by omega))
  have HF5 := hid (keepB ha HF4.out (lt_of_heap HF4.out) (by omega))
  have HA5 : Hid (Apart [] w w5) := HA4.out.trans' ha (by intro y hy; simp at hy; rw [hy]; have := HG.out; exact .inr (by omega))
  clear ha
  cases hr : rmsg B q with
  | error x =>
    rw [hr] at hm
    have he : e = wrongAt x := hm
    subst he
    unfold wrongAt
    have HR := hid hr
    clear hr hm
    try dsimp only
    refine leaves_cons (f := 63) (args := #[.pointer (some ⟨G + 1, 0, none⟩), .pointer (some ⟨G + 1 + 1, 0, none⟩)]) (by simp) (by simp [go_sem]) ?_
    refine (catch76_panicking ⟨G + 1, 0, none⟩ ⟨G + 1 + 1, 0, none⟩ x (.int .i64 0) (.int .i64 0) w5 (by rw [cell_of_row _ _ _ _ _ _ HE5.out]; rfl) (frozen_of_row _ _ 0 _ _ HE5.out) (by rw [cell_of_row _ _ _ _ _ _ HF5.out]; rfl) (frozen_of_row _ _ 0 _ _ HF5.out) (by simp)).mono ?_
    rintro e2 u' w6 ⟨rfl, rfl, hw6⟩
    have HS6 : Hid (Apart [G + 1, G + 1 + 1] w5 w6) := by unfold Hid; rw [hw6]; exact ((Apart.refl _ _).setCell (.inl (by simp)) _).setCell (.inl (by simp)) _
    have HE6 : Hid (w6.heap[G + 1]? = some (.cells #[.int .i64 (x : Nat)] 3 (0, 0))) := by
      unfold Hid
      rw [hw6]
      have h1 := heap_setCell_same w5 (G + 1) 0 _ 3 (.int .i64 (x : Nat)) HE5.out
      have a2 : Apart [G + 1 + 1] (w5.setCell ⟨G + 1, 0, none⟩ (.int .i64 (x : Nat))) ((w5.setCell ⟨G + 1, 0, none⟩ (.int .i64 (x : Nat))).setCell ⟨G + 1 + 1, 0, none⟩ (.int .i64 60)) := (Apart.refl _ _).setCell (.inl (by simp)) _
      have := (a2.block _ (lt_of_heap h1) (by simp)).trans h1
      simpa using this
    have HF6 : Hid (w6.heap[G + 1 + 1]? = some (.cells #[.int .i64 60] 40 (0, 0))) := by
      unfold Hid
      rw [hw6]
      have a1 : Apart [G + 1] w5 (w5.setCell ⟨G + 1, 0, none⟩ (.int .i64 (x : Nat))) := (Apart.refl _ _).setCell (.inl (by simp)) _
      have h0 := (a1.block _ (lt_of_heap HF5.out) (by simp)).trans HF5.out
      have h1 := heap_setCell_same _ (G + 1 + 1) 0 _ 40 (.int .i64 60) h0
      simpa using h1
    have HG6 : Hid (w6.heap[G]? = some (.cells MM.z.cs 29 (0, 0))) := (HS6.out.block _ (lt_of_heap HG5.out) (by simp; omega)).trans HG5.out
    have HA6 : Hid (Apart [] w w6) := HA5.out.trans' HS6.out (by intro y hy; simp at hy; have := HG.out; rcases hy with hy | hy <;> (rw [hy]; exact .inr (by omega)))
    clear hw6
    have c0 : w6.cell? ⟨G, 0, none⟩ = _ := mrow HG6.out 0 _ rfl
    have c1 : w6.cell? ⟨G, 1, none⟩ = _ := mrow HG6.out 1 _ rfl
    have c2 : w6.cell? ⟨G, 2, none⟩ = _ := mrow HG6.out 2 _ rfl
    have c3 : w6.cell? ⟨G, 3, none⟩ = _ := mrow HG6.out 3 _ rfl
    have c4 : w6.cell? ⟨G, 4, none⟩ = _ := mrow HG6.out 4 _ rfl
    have c5 : w6.cell? ⟨G, 5, none⟩ = _ := mrow HG6.out 5 _ rfl
    have c6 : w6.cell? ⟨G, 6, none⟩ = _ := mrow HG6.out 6 _ rfl
    have c7 : w6.cell? ⟨G, 7, none⟩ = _ := mrow HG6.out 7 _ rfl
    have c8 : w6.cell? ⟨G, 8, none⟩ = _ := mrow HG6.out 8 _ rfl
    have c9 : w6.cell? ⟨G, 9, none⟩ = _ := mrow HG6.out 9 _ rfl
    have c10 : w6.cell? ⟨G, 10, none⟩ = _ := mrow HG6.out 10 _ rfl
    have ce : w6.cell? ⟨G + 1, 0, none⟩ = some (.int .i64 (x : Nat)) := by rw [cell_of_row _ _ _ _ _ _ HE6.out]; rfl
    have cf : w6.cell? ⟨G + 1 + 1, 0, none⟩ = some (.int .i64 60) := by rw [cell_of_row _ _ _ _ _ _ HF6.out]; rfl
    have HP : Hid (RdP w w6 (.returned (.tuple #[.agg MM.z.cs, .int .i64 (x : Nat), .int .i64 60])) (rmsg B q) (.agg MM.z.cs) (VMsg w)) := ⟨HA6.out, fun a q' h => (by rw [HR.out] at h; cases h), fun y h => (by rw [HR.out] at h; cases h; rfl)⟩
    simp [Leaves, settle, results, Tryz.results33, go_sem, c0, c1, c2, c3, c4, c5, c6, c7, c8, c9, c10, ce, cf]
    exact HP.out
  | ok t =>
    obtain ⟨a, q'⟩ := t
    rw [hr] at hm
    obtain ⟨⟨v, hev, hv⟩, hrb⟩ := hm
    subst hev
    have HR := hid hr
    have HRb := hid hrb
    have HV5 := hid hv
    obtain ⟨m, es, hvm, -⟩ := hv
    clear hr hrb
    subst hvm
    unfold MM.cs
    try dsimp only
    have z0 : w5.cell? ⟨G, 0, none⟩ = _ := mrow HG5.out 0 _ rfl
    have y0 := frozen_of_row _ _ 0 _ _ HG5.out
    have z1 : w5.cell? ⟨G, 1, none⟩ = _ := mrow HG5.out 1 _ rfl
    have y1 := frozen_of_row _ _ 1 _ _ HG5.out
    have z2 : w5.cell? ⟨G, 2, none⟩ = _ := mrow HG5.out 2 _ rfl
    have y2 := frozen_of_row _ _ 2 _ _ HG5.out
    have z3 : w5.cell? ⟨G, 3, none⟩ = _ := mrow HG5.out 3 _ rfl
    have y3 := frozen_of_row _ _ 3 _ _ HG5.out
    have z4 : w5.cell? ⟨G, 4, none⟩ = _ := mrow HG5.out 4 _ rfl
    have y4 := frozen_of_row _ _ 4 _ _ HG5.out
    have z5 : w5.cell? ⟨G, 5, none⟩ = _ := mrow HG5.out 5 _ rfl
    have y5 := frozen_of_row _ _ 5 _ _ HG5.out
    have z6 : w5.cell? ⟨G, 6, none⟩ = _ := mrow HG5.out 6 _ rfl
    have y6 := frozen_of_row _ _ 6 _ _ HG5.out
    have z7 : w5.cell? ⟨G, 7, none⟩ = _ := mrow HG5.out 7 _ rfl
    have y7 := frozen_of_row _ _ 7 _ _ HG5.out
    have z8 : w5.cell? ⟨G, 8, none⟩ = _ := mrow HG5.out 8 _ rfl
    have y8 := frozen_of_row _ _ 8 _ _ HG5.out
    have z9 : w5.cell? ⟨G, 9, none⟩ = _ := mrow HG5.out 9 _ rfl
    have y9 := frozen_of_row _ _ 9 _ _ HG5.out
    have z10 : w5.cell? ⟨G, 10, none⟩ = _ := mrow HG5.out 10 _ rfl
    have y10 := frozen_of_row _ _ 10 _ _ HG5.out
    obtain ⟨w6, Hw6⟩ : ∃ w6, Hid (w6 = (((((((((((w5.setCell ⟨G, 0, none⟩ (.int .i64 (m.kind : Nat))).setCell ⟨G, 1, none⟩ (.int .i64 (m.frm : Nat))).setCell ⟨G, 2, none⟩ (.int .i64 (m.dst : Nat))).setCell ⟨G, 3, none⟩ (.int .i64 (m.call : Nat))).setCell ⟨G, 4, none⟩ (.int .i64 (m.rng : Nat))).setCell ⟨G, 5, none⟩ (.int .i64 (m.own : Nat))).setCell ⟨G, 6, none⟩ (.string m.key)).setCell ⟨G, 7, none⟩ (.int .i64 (m.dn : Nat))).setCell ⟨G, 8, none⟩ (.int .i64 (m.dc : Nat))).setCell ⟨G, 9, none⟩ (.slice m.set.p m.set.n m.set.c)).setCell ⟨G, 10, none⟩ (.slice m.ws.p m.ws.n m.ws.c))) := ⟨_, rfl⟩
    have HG6 : Hid (w6.heap[G]? = some (.cells m.cs 29 (0, 0))) := by
      unfold Hid
      rw [Hw6.out]
      have h1 := heap_setCell_same w5 G 0 _ 29 (.int .i64 (m.kind : Nat)) HG5.out
      have h2 := heap_setCell_same _ G 1 _ 29 (.int .i64 (m.frm : Nat)) h1
      have h3 := heap_setCell_same _ G 2 _ 29 (.int .i64 (m.dst : Nat)) h2
      have h4 := heap_setCell_same _ G 3 _ 29 (.int .i64 (m.call : Nat)) h3
      have h5 := heap_setCell_same _ G 4 _ 29 (.int .i64 (m.rng : Nat)) h4
      have h6 := heap_setCell_same _ G 5 _ 29 (.int .i64 (m.own : Nat)) h5
      have h7 := heap_setCell_same _ G 6 _ 29 (.string m.key) h6
      have h8 := heap_setCell_same _ G 7 _ 29 (.int .i64 (m.dn : Nat)) h7
      have h9 := heap_setCell_same _ G 8 _ 29 (.int .i64 (m.dc : Nat)) h8
      have h10 := heap_setCell_same _ G 9 _ 29 (.slice m.set.p m.set.n m.set.c) h9
      have h11 := heap_setCell_same _ G 10 _ 29 (.slice m.ws.p m.ws.n m.ws.c) h10
      simpa [MM.cs, MM.z] using h11
    have HS6 : Hid (Apart [G] w5 w6) := by unfold Hid; rw [Hw6.out]; exact ((((((((((((Apart.refl _ _).setCell (.inl (by simp)) _).setCell (.inl (by simp)) _).setCell (.inl (by simp)) _).setCell (.inl (by simp)) _).setCell (.inl (by simp)) _).setCell (.inl (by simp)) _).setCell (.inl (by simp)) _).setCell (.inl (by simp)) _).setCell (.inl (by simp)) _).setCell (.inl (by simp)) _).setCell (.inl (by simp)) _)
    have HE6 := hid (keepB HS6.out HE5.out (lt_of_heap HE5.out) (by omega))
    have HF6 := hid (keepB HS6.out HF5.out (lt_of_heap HF5.out) (by omega))
    have HR6 := hid (HRb.out.other HS6.out HG5.out (by decide) (by have := HG.out; omega))
    have HV6 := hid (HV5.out.oth HS6.out HG5.out (by decide) (by have := HG.out; omega))
    go_wp2_with fail
    rw [← Hw6.out]
    clear z0 z1 z2 z3 z4 z5 z6 z7 z8 z9 z10 y0 y1 y2 y3 y4 y5 y6 y7 y8 y9 y10
    obtain ⟨r0, r1, r2⟩ := HR6.out.cells
    refine wp_region_noPanic ?_
    refine wp_region_held_drew (S := fun W => W.heap[G]? = some (.cells m.cs 29 (0, 0)) ∧ W.cell? ⟨G + 1 + 1 + 1, 1, none⟩ = some (.int .i64 (q' : Nat))) (by kernel_rfl) ⟨((Apart.refl [] w6).drew.block _ (lt_of_heap HG6.out) (by simp)).trans HG6.out, ((HR6.out.kept (Apart.refl [] w6).drew).cells).2.1⟩ (fun hHeld => ?_)
    clear r0 r1 r2
    have HSd : Hid (Apart [] w6 w6.drew) := (Apart.refl [] w6).drew
    generalize w6.drew = wd at *
    have HGd : Hid (wd.heap[G]? = some (.cells m.cs 29 (0, 0))) := (HSd.out.block _ (lt_of_heap HG6.out) (by simp)).trans HG6.out
    have HEd := hid ((HSd.out.block _ (lt_of_heap HE6.out) (by simp)).trans HE6.out)
    have HFd := hid ((HSd.out.block _ (lt_of_heap HF6.out) (by simp)).trans HF6.out)
    have HRd := hid (HR6.out.kept HSd.out)
    have HVd := hid (HV6.out.oth (X := G) (HSd.out.mono (by simp)) HG6.out (by decide) (by have := HG.out; omega))
    have hS0 : wd.heap[G]? = some (.cells m.cs 29 (0, 0)) ∧ wd.cell? ⟨G + 1 + 1 + 1, 1, none⟩ = some (.int .i64 (q' : Nat)) := ⟨HGd.out, HRd.out.cells.2.1⟩
    refine tkn 0 27 (.agg #[.int .i64 (m.kind : Nat), .int .i64 (m.frm : Nat), .int .i64 (m.dst : Nat), .int .i64 (m.call : Nat), .int .i64 (m.rng : Nat), .int .i64 (m.own : Nat), .string m.key, .int .i64 (m.dn : Nat), .int .i64 (m.dc : Nat), .slice m.set.p m.set.n m.set.c, .slice m.ws.p m.ws.n m.ws.c]) rfl ?_ ?_
    · intro W hSW
      obtain ⟨hSW, _⟩ := hSW
      have z0 : W.cell? ⟨G, 0, none⟩ = some (.int .i64 (m.kind : Nat)) := mrow hSW 0 _ rfl
      have z1 : W.cell? ⟨G, 1, none⟩ = some (.int .i64 (m.frm : Nat)) := mrow hSW 1 _ rfl
      have z2 : W.cell? ⟨G, 2, none⟩ = some (.int .i64 (m.dst : Nat)) := mrow hSW 2 _ rfl
      have z3 : W.cell? ⟨G, 3, none⟩ = some (.int .i64 (m.call : Nat)) := mrow hSW 3 _ rfl
      have z4 : W.cell? ⟨G, 4, none⟩ = some (.int .i64 (m.rng : Nat)) := mrow hSW 4 _ rfl
      have z5 : W.cell? ⟨G, 5, none⟩ = some (.int .i64 (m.own : Nat)) := mrow hSW 5 _ rfl
      have z6 : W.cell? ⟨G, 6, none⟩ = some (.string m.key) := mrow hSW 6 _ rfl
      have z7 : W.cell? ⟨G, 7, none⟩ = some (.int .i64 (m.dn : Nat)) := mrow hSW 7 _ rfl
      have z8 : W.cell? ⟨G, 8, none⟩ = some (.int .i64 (m.dc : Nat)) := mrow hSW 8 _ rfl
      have z9 : W.cell? ⟨G, 9, none⟩ = some (.slice m.set.p m.set.n m.set.c) := mrow hSW 9 _ rfl
      have z10 : W.cell? ⟨G, 10, none⟩ = some (.slice m.ws.p m.ws.n m.ws.c) := mrow hSW 10 _ rfl
      clear hSW
      go_simp
    try simp only [Act.put, List.setIfInBounds_toArray, List.set_cons_zero, List.set_cons_succ]
    refine tkn 1 28 (.pointer (some ⟨G + 1 + 1 + 1, 0, none⟩)) rfl ?_ ?_
    · intro W hSW; go_simp
    refine tkn 2 29 (.pointer (some ⟨G + 1 + 1 + 1, 0, none⟩)) rfl ?_ ?_
    · intro W hSW; go_simp
    refine tkn 3 30 (.pointer (some ⟨G + 1 + 1 + 1, 1, none⟩)) rfl ?_ ?_
    · intro W hSW; go_simp
    refine tkn 4 31 (.int .i64 (q' : Nat)) rfl ?_ ?_
    · intro W hSW; have z1 := hSW.2; go_simp
    obtain ⟨w7, Hw7⟩ : ∃ w7, Hid (w7 = (((((((((((wd.setCell ⟨G, 0, none⟩ (.int .i64 (m.kind : Nat))).setCell ⟨G, 1, none⟩ (.int .i64 (m.frm : Nat))).setCell ⟨G, 2, none⟩ (.int .i64 (m.dst : Nat))).setCell ⟨G, 3, none⟩ (.int .i64 (m.call : Nat))).setCell ⟨G, 4, none⟩ (.int .i64 (m.rng : Nat))).setCell ⟨G, 5, none⟩ (.int .i64 (m.own : Nat))).setCell ⟨G, 6, none⟩ (.string m.key)).setCell ⟨G, 7, none⟩ (.int .i64 (m.dn : Nat))).setCell ⟨G, 8, none⟩ (.int .i64 (m.dc : Nat))).setCell ⟨G, 9, none⟩ (.slice m.set.p m.set.n m.set.c)).setCell ⟨G, 10, none⟩ (.slice m.ws.p m.ws.n m.ws.c))) := ⟨_, rfl⟩
    have HG7 : Hid (w7.heap[G]? = some (.cells m.cs 29 (0, 0))) := by
      unfold Hid
      rw [Hw7.out]
      have h1 := heap_setCell_same wd G 0 _ 29 (.int .i64 (m.kind : Nat)) HGd.out
      have h2 := heap_setCell_same _ G 1 _ 29 (.int .i64 (m.frm : Nat)) h1
      have h3 := heap_setCell_same _ G 2 _ 29 (.int .i64 (m.dst : Nat)) h2
      have h4 := heap_setCell_same _ G 3 _ 29 (.int .i64 (m.call : Nat)) h3
      have h5 := heap_setCell_same _ G 4 _ 29 (.int .i64 (m.rng : Nat)) h4
      have h6 := heap_setCell_same _ G 5 _ 29 (.int .i64 (m.own : Nat)) h5
      have h7 := heap_setCell_same _ G 6 _ 29 (.string m.key) h6
      have h8 := heap_setCell_same _ G 7 _ 29 (.int .i64 (m.dn : Nat)) h7
      have h9 := heap_setCell_same _ G 8 _ 29 (.int .i64 (m.dc : Nat)) h8
      have h10 := heap_setCell_same _ G 9 _ 29 (.slice m.set.p m.set.n m.set.c) h9
      have h11 := heap_setCell_same _ G 10 _ 29 (.slice m.ws.p m.ws.n m.ws.c) h10
      simpa [MM.cs, MM.z] using h11
    have HS7 : Hid (Apart [G] wd w7) := by unfold Hid; rw [Hw7.out]; exact ((((((((((((Apart.refl _ _).setCell (.inl (by simp)) _).setCell (.inl (by simp)) _).setCell (.inl (by simp)) _).setCell (.inl (by simp)) _).setCell (.inl (by simp)) _).setCell (.inl (by simp)) _).setCell (.inl (by simp)) _).setCell (.inl (by simp)) _).setCell (.inl (by simp)) _).setCell (.inl (by simp)) _).setCell (.inl (by simp)) _)
    have HE7 := hid (keepB HS7.out HEd.out (lt_of_heap HEd.out) (by omega))
    have HF7 := hid (keepB HS7.out HFd.out (lt_of_heap HFd.out) (by omega))
    have HV7 := hid (HVd.out.oth HS7.out HGd.out (by decide) (by have := HG.out; omega))
    obtain ⟨wx, Hwx⟩ : ∃ wx, Hid (wx = w7.setCell ⟨G + 1, 0, none⟩ (.int .i64 (q' : Nat))) := ⟨_, rfl⟩
    have HSx : Hid (Apart [G + 1] w7 wx) := by unfold Hid; rw [Hwx.out]; exact (Apart.refl _ _).setCell (.inl (by simp)) _
    have HEx : Hid (wx.heap[G + 1]? = some (.cells #[.int .i64 (q' : Nat)] 3 (0, 0))) := by
      unfold Hid
      rw [Hwx.out]
      have := heap_setCell_same w7 (G + 1) 0 _ 3 (.int .i64 (q' : Nat)) HE7.out
      simpa using this
    have HGx := hid (keepB HSx.out HG7.out (lt_of_heap HG7.out) (by omega))
    have HFx := hid (keepB HSx.out HF7.out (lt_of_heap HF7.out) (by omega))
    have HVx := hid (HV7.out.oth HSx.out HE7.out (by decide) (by have := HG.out; omega))
    obtain ⟨w8, Hw8⟩ : ∃ w8, Hid (w8 = wx.setCell ⟨G + 1 + 1, 0, none⟩ (.int .i64 0)) := ⟨_, rfl⟩
    have HS8 : Hid (Apart [G + 1 + 1] wx w8) := by unfold Hid; rw [Hw8.out]; exact (Apart.refl _ _).setCell (.inl (by simp)) _
    have HF8 : Hid (w8.heap[G + 1 + 1]? = some (.cells #[.int .i64 0] 40 (0, 0))) := by
      unfold Hid
      rw [Hw8.out]
      have := heap_setCell_same wx (G + 1 + 1) 0 _ 40 (.int .i64 0) HFx.out
      simpa using this
    have HG8 := hid (keepB HS8.out HGx.out (lt_of_heap HGx.out) (by omega))
    have HE8 := hid (keepB HS8.out HEx.out (lt_of_heap HEx.out) (by omega))
    have HV8 := hid (HVx.out.oth HS8.out HFx.out (by decide) (by have := HG.out; omega))
    have HA8 : Hid (Apart [] w w8) := by
      have hg := HG.out
      have b6 := HA5.out.trans' HS6.out (by intro y hy; simp at hy; rw [hy]; exact .inr (by omega))
      have b6d := b6.trans' HSd.out (by intro y hy; simp at hy)
      have b7 := b6d.trans' HS7.out (by intro y hy; simp at hy; rw [hy]; exact .inr (by omega))
      have bx := b7.trans' HSx.out (by intro y hy; simp at hy; rw [hy]; exact .inr (by omega))
      exact bx.trans' HS8.out (by intro y hy; simp at hy; rw [hy]; exact .inr (by omega))
    have HP : Hid (RdP w w8 (.returned (.tuple #[.agg m.cs, .int .i64 (q' : Nat), .int .i64 0])) (rmsg B q) (.agg MM.z.cs) (VMsg w)) := ⟨HA8.out, fun a' q2 h => (by rw [HR.out] at h; cases h; exact ⟨_, rfl, HV8.out⟩), fun y h => (by rw [HR.out] at h; cases h)⟩
    have HRc7 := hid ((HRd.out.other HS7.out HGd.out (by decide) (by have := HG.out; omega)).cells.2.1)
    have HRcx := hid (((HRd.out.other HS7.out HGd.out (by decide) (by have := HG.out; omega)).other HSx.out HE7.out (by decide) (by have := HG.out; omega)).cells.2.1)
    have HRc8 := hid ((((HRd.out.other HS7.out HGd.out (by decide) (by have := HG.out; omega)).other HSx.out HE7.out (by decide) (by have := HG.out; omega)).other HS8.out HFx.out (by decide) (by have := HG.out; omega)).cells.2.1)
    have z0 : wd.cell? ⟨G, 0, none⟩ = some (.int .i64 (m.kind : Nat)) := mrow HGd.out 0 _ rfl
    have y0 := frozen_of_row _ _ 0 _ _ HGd.out
    have z1 : wd.cell? ⟨G, 1, none⟩ = some (.int .i64 (m.frm : Nat)) := mrow HGd.out 1 _ rfl
    have y1 := frozen_of_row _ _ 1 _ _ HGd.out
    have z2 : wd.cell? ⟨G, 2, none⟩ = some (.int .i64 (m.dst : Nat)) := mrow HGd.out 2 _ rfl
    have y2 := frozen_of_row _ _ 2 _ _ HGd.out
    have z3 : wd.cell? ⟨G, 3, none⟩ = some (.int .i64 (m.call : Nat)) := mrow HGd.out 3 _ rfl
    have y3 := frozen_of_row _ _ 3 _ _ HGd.out
    have z4 : wd.cell? ⟨G, 4, none⟩ = some (.int .i64 (m.rng : Nat)) := mrow HGd.out 4 _ rfl
    have y4 := frozen_of_row _ _ 4 _ _ HGd.out
    have z5 : wd.cell? ⟨G, 5, none⟩ = some (.int .i64 (m.own : Nat)) := mrow HGd.out 5 _ rfl
    have y5 := frozen_of_row _ _ 5 _ _ HGd.out
    have z6 : wd.cell? ⟨G, 6, none⟩ = some (.string m.key) := mrow HGd.out 6 _ rfl
    have y6 := frozen_of_row _ _ 6 _ _ HGd.out
    have z7 : wd.cell? ⟨G, 7, none⟩ = some (.int .i64 (m.dn : Nat)) := mrow HGd.out 7 _ rfl
    have y7 := frozen_of_row _ _ 7 _ _ HGd.out
    have z8 : wd.cell? ⟨G, 8, none⟩ = some (.int .i64 (m.dc : Nat)) := mrow HGd.out 8 _ rfl
    have y8 := frozen_of_row _ _ 8 _ _ HGd.out
    have z9 : wd.cell? ⟨G, 9, none⟩ = some (.slice m.set.p m.set.n m.set.c) := mrow HGd.out 9 _ rfl
    have y9 := frozen_of_row _ _ 9 _ _ HGd.out
    have z10 : wd.cell? ⟨G, 10, none⟩ = some (.slice m.ws.p m.ws.n m.ws.c) := mrow HGd.out 10 _ rfl
    have y10 := frozen_of_row _ _ 10 _ _ HGd.out
    refine wpAnyH_ready (rs := [5]) (by kernel_rfl) (by simp) ?_
    refine AllReadyH.cons rfl (fun KK hKK => ?_) AllReadyH.nil
    go_simp
    rw [← Hw7.out]
    clear z0 z1 z2 z3 z4 z5 z6 z7 z8 z9 z10 y0 y1 y2 y3 y4 y5 y6 y7 y8 y9 y10
    refine hKK.out _ _ ⟨HG7.out, HRc7.out⟩ (fun hHeld => ?_)
    clear hKK KK
    have e0 : w7.cell? ⟨G + 1, 0, none⟩ = some (.int .i64 0) := by rw [cell_of_row _ _ _ _ _ _ HE7.out]; rfl
    have e1 := frozen_of_row _ _ 0 _ _ HE7.out
    refine wpAnyH_ready (rs := [6]) (by kernel_rfl) (by simp) ?_
    refine AllReadyH.cons rfl (fun KK hKK => ?_) AllReadyH.nil
    go_simp
    rw [← Hwx.out]
    clear e0 e1
    refine hKK.out _ _ ⟨HGx.out, HRcx.out⟩ (fun hHeld => ?_)
    clear hKK KK
    have g0 : wx.cell? ⟨G + 1 + 1, 0, none⟩ = some (.int .i64 0) := by rw [cell_of_row _ _ _ _ _ _ HFx.out]; rfl
    have g1 := frozen_of_row _ _ 0 _ _ HFx.out
    refine wpAnyH_ready (rs := [7]) (by kernel_rfl) (by simp) ?_
    refine AllReadyH.cons rfl (fun KK hKK => ?_) AllReadyH.nil
    go_simp
    rw [← Hw8.out]
    clear g0 g1
    refine hKK.out _ _ ⟨HG8.out, HRc8.out⟩ (fun hHeld => ?_)
    clear hKK KK
    refine wpAnyH_done (by kernel_rfl) ?_ _
    refine NoPanic.normal ?_
    go_wp2_with fail
    refine leaves_cons (f := 63) (args := #[.pointer (some ⟨G + 1, 0, none⟩), .pointer (some ⟨G + 1 + 1, 0, none⟩)]) (by simp) (by simp [go_sem]) ?_
    refine (catch76_idle ⟨G + 1, 0, none⟩ ⟨G + 1 + 1, 0, none⟩ w8).mono ?_
    rintro e2 u' w9 ⟨rfl, rfl, hw9⟩
    rw [hw9]
    clear hw9 w9
    have c0 : w8.cell? ⟨G, 0, none⟩ = some (.int .i64 (m.kind : Nat)) := mrow HG8.out 0 _ rfl
    have c1 : w8.cell? ⟨G, 1, none⟩ = some (.int .i64 (m.frm : Nat)) := mrow HG8.out 1 _ rfl
    have c2 : w8.cell? ⟨G, 2, none⟩ = some (.int .i64 (m.dst : Nat)) := mrow HG8.out 2 _ rfl
    have c3 : w8.cell? ⟨G, 3, none⟩ = some (.int .i64 (m.call : Nat)) := mrow HG8.out 3 _ rfl
    have c4 : w8.cell? ⟨G, 4, none⟩ = some (.int .i64 (m.rng : Nat)) := mrow HG8.out 4 _ rfl
    have c5 : w8.cell? ⟨G, 5, none⟩ = some (.int .i64 (m.own : Nat)) := mrow HG8.out 5 _ rfl
    have c6 : w8.cell? ⟨G, 6, none⟩ = some (.string m.key) := mrow HG8.out 6 _ rfl
    have c7 : w8.cell? ⟨G, 7, none⟩ = some (.int .i64 (m.dn : Nat)) := mrow HG8.out 7 _ rfl
    have c8 : w8.cell? ⟨G, 8, none⟩ = some (.int .i64 (m.dc : Nat)) := mrow HG8.out 8 _ rfl
    have c9 : w8.cell? ⟨G, 9, none⟩ = some (.slice m.set.p m.set.n m.set.c) := mrow HG8.out 9 _ rfl
    have c10 : w8.cell? ⟨G, 10, none⟩ = some (.slice m.ws.p m.ws.n m.ws.c) := mrow HG8.out 10 _ rfl
    have ce : w8.cell? ⟨G + 1, 0, none⟩ = some (.int .i64 (q' : Nat)) := by rw [cell_of_row _ _ _ _ _ _ HE8.out]; rfl
    have cf : w8.cell? ⟨G + 1 + 1, 0, none⟩ = some (.int .i64 0) := by rw [cell_of_row _ _ _ _ _ _ HF8.out]; rfl
    simp [Leaves, settle, results, Tryz.results33, go_sem, c0, c1, c2, c3, c4, c5, c6, c7, c8, c9, c10, ce, cf]
    exact HP.out
end Go.Proofs.YtddffdcjhleejaaGreat.ds
