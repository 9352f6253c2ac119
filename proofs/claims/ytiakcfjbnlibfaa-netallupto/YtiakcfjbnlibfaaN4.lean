import Derived.Test.YtiakcfjbnlibfaaN3
namespace Go.Proofs.Ytiakcfjbnlibfaa.nt
open Go.ChangeShapes Go.WideShapes Go.ChangeAt Go.RowKit
set_option linter.unusedVariables false
set_option linter.unusedSimpArgs false
theorem FreshL.from {w0 w w' : World} {l : LM} {x : Tx} (h : FreshL w w' l x) (a : Apart [] w0 w) : FreshL w0 w' l x :=
  { h with d := ⟨h.d.own, fun k hk => Nat.le_trans a.size (h.d.new k hk), a.trans h.d.ap⟩ }
theorem FreshL.keepT {w w' w2 : World} {l : LM} {x : Tx} {X : List Nat} (h : FreshL w w' l x) (a : Apart X w' w2) (ap : Apart [] w w2) (hX : ∀ k ∈ X, ∀ cur, w'.heap[k]? ≠ some (.cells cur 5 (0, 0))) : FreshL w w2 l x :=
  { h with d := h.d.keepT a ap hX }
set_option maxHeartbeats 2000000 in
theorem at_ok {w0 w : World} {Bg : Nat} {room : Int} {s : Sl} {ls : List LM} {xs : List Tx} {c : Cn} (h : Bag w0 w Bg room s ls xs c) (i : Nat) (hi : i < s.n) : Calls Try.prog 15 #[.pointer (some ⟨Bg, 0, none⟩), .int .i64 (i : Int)] w fun r w' => ∃ l', r = .returned (.tuple #[LM.agg l', .int .i64 0]) ∧ FreshL w w' l' (gT xs i) := by
  obtain ⟨W1, hW1⟩ : ∃ W1, W1 = w.alloc (boxL LM.z) := ⟨_, rfl⟩
  have a1 : Apart [] w W1 := by rw [hW1]; exact (Apart.refl [] w).alloc _
  have r1 : W1.heap[w.heap.size]? = some (.cells #[.int .i64 0, .int .i64 0, .slice none 0 0] 30 (0, 0)) := by rw [hW1]; exact heap_alloc_new w _
  have h1 := h.kept0 a1
  have hh := has_ok h1 (i : Int)
  rw [show decide (0 ≤ (i : Int) ∧ (i : Int) < (s.n : Int)) = true from by simp; omega] at hh
  have HH := hid h1
  have HA := hid a1
  have HR := hid r1
  unfold boxL LM.z Sl.v at hW1
  clear h h1 a1 r1
  go_enter Try.func15, Try.ntmps15
  go_upto_region 1 with fail
  rw [← hW1]
  clear hW1
  go_wp2_with fail
  refine hh.mono ?_
  clear hh
  rintro _ w2 ⟨rfl, a2⟩
  have hB := HH.out.kept0 a2
  have HB := hid hB
  obtain ⟨b0, b1, _⟩ := hB.cells
  obtain ⟨G, hG, g0, g1, g2⟩ := hB.at hi
  rw [hG] at b1
  have hC := clone_ok (gL ls i) (gT xs i) w2 (hB.rd i hi).reads
  have HA2 := hid (HA.out.trans a2)
  have HR2 := hid ((a2.block _ (lt_of_heap HR.out) (by simp)).trans HR.out)
  have hcp : (i : Int) < (s.n : Int) := by omega
  generalize gL ls i = y at *
  unfold LM.agg Sl.v at hC
  unfold Sl.v at g2
  clear hB a2 HR
  dsimp only
  go_wp2_with fail
  refine hC.mono ?_
  clear hC
  rintro _ w3 ⟨l', rfl, fr⟩
  have r3 := (fr.d.ap.block _ (lt_of_heap HR2.out) (by simp)).trans HR2.out
  have p3 := row3s r3 (.int .i64 l'.f) (.int .i64 l'.t) (.slice l'.d.p l'.d.n l'.d.c)
  have ag := ap3 w3 w.heap.size (.int .i64 l'.f) (.int .i64 l'.t) (.slice l'.d.p l'.d.n l'.d.c)
  have f2 := fr.from HA2.out
  have f3 := f2.keepT ag (f2.d.ap.trans' ag (by simp)) (fun k hk cur => by simp at hk; subst hk; exact blk_ne r3 cur (by decide))
  have HF := hid f3
  have HP := hid p3
  obtain ⟨d0, d1, d2⟩ := row3 r3
  have k0 := frozen_of_row _ _ 0 _ _ r3
  have k1 := frozen_of_row _ _ 1 _ _ r3
  have k2 := frozen_of_row _ _ 2 _ _ r3
  clear fr r3 p3 ag f2 f3 HR2
  dsimp only
  go_wp2
  refine bodyPost_ret (results_ct rfl _ _ w.heap.size 30 _ _ _ _ rfl HP.out) rfl ?_
  exact ⟨l', rfl, HF.out⟩
theorem at_bad {w0 w : World} {Bg : Nat} {room : Int} {s : Sl} {ls : List LM} {xs : List Tx} {c : Cn} (h : Bag w0 w Bg room s ls xs c) (i : Int) (hi : ¬ (0 ≤ i ∧ i < (s.n : Int))) : Calls Try.prog 15 #[.pointer (some ⟨Bg, 0, none⟩), .int .i64 i] w fun r w' => r = .returned (.tuple #[LM.agg LM.z, .int .i64 100]) ∧ Apart [] w w' := by
  obtain ⟨W1, hW1⟩ : ∃ W1, W1 = w.alloc (boxL LM.z) := ⟨_, rfl⟩
  have a1 : Apart [] w W1 := by rw [hW1]; exact (Apart.refl [] w).alloc _
  have r1 : W1.heap[w.heap.size]? = some (.cells #[.int .i64 0, .int .i64 0, .slice none 0 0] 30 (0, 0)) := by rw [hW1]; exact heap_alloc_new w _
  have h1 := h.kept0 a1
  have hh := has_ok h1 i
  rw [show decide (0 ≤ i ∧ i < (s.n : Int)) = false from decide_eq_false hi] at hh
  have HA := hid a1
  have HR := hid r1
  unfold boxL LM.z Sl.v at hW1
  clear h h1 a1 r1 hi
  go_enter Try.func15, Try.ntmps15
  go_upto_region 1 with fail
  rw [← hW1]
  clear hW1
  go_wp2_with fail
  refine hh.mono ?_
  clear hh
  rintro _ w2 ⟨rfl, a2⟩
  have r3 := (a2.block _ (lt_of_heap HR.out) (by simp)).trans HR.out
  have p3 := row3s r3 (.int .i64 0) (.int .i64 0) (.slice none 0 0)
  have ag := ap3 w2 w.heap.size (.int .i64 0) (.int .i64 0) (.slice none 0 0)
  have HP := hid p3
  have HA3 := hid ((HA.out.trans a2).trans' ag (by simp))
  obtain ⟨d0, d1, d2⟩ := row3 r3
  have k0 := frozen_of_row _ _ 0 _ _ r3
  have k1 := frozen_of_row _ _ 1 _ _ r3
  have k2 := frozen_of_row _ _ 2 _ _ r3
  clear r3 p3 ag a2
  dsimp only
  go_wp2
  refine bodyPost_ret (results_ct rfl _ _ w.heap.size 30 _ _ _ _ rfl HP.out) rfl ?_
  exact ⟨rfl, HA3.out⟩
end Go.Proofs.Ytiakcfjbnlibfaa.nt
