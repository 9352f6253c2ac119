import Derived.Test.YtopmhacnopfifaaQRow
import Derived.Deep.RegionHeld
namespace Go.Proofs.Ytopmhacnopfifaa.tm
open Go.ChangeShapes Go.WideShapes Go.ChangeAt Go.RowKit
set_option linter.unusedVariables false
set_option linter.unusedSimpArgs false
theorem hid {p : Prop} (h : p) : Hid p := h
/-- a queue by its row: n timers ever, nw the greatest due so far -/
structure Qu (w0 w : World) (Q H : Nat) (row : List E) (n : Nat) (nw : Int) : Prop where
  hq : w.heap[Q]? = some (.cells #[.pointer (some ⟨H, 0, none⟩), .int .i64 (n : Int), .int .i64 nw] 96 (0, 0))
  hr : HRow w0 w H row n
  hQ : w0.heap.size ≤ Q
  hm : ∀ e ∈ row, e.m = e.a + 1 ∧ 0 ≤ e.a ∧ e.a < n
/-- what is no heap, no row of entries, and not Q is as it was -/
structure KeptQ (Q : Nat) (w w' : World) : Prop where
  size : w.heap.size ≤ w'.heap.size
  same : ∀ (k : Nat) (cur : Array Value) (t : TypeId) (f : Nat × Nat), w.heap[k]? = some (.cells cur t f) → t ≠ 102 → t ≠ 100 → k ≠ Q → w'.heap[k]? = some (.cells cur t f)
theorem KeptQ.of {Q : Nat} {w w' : World} (a : Apart [] w w') : KeptQ Q w w' := ⟨a.size, fun k cur t f h _ _ _ => (a.block k (lt_of_heap h) (by simp)).trans h⟩
theorem KeptQ.trans {Q : Nat} {a b c : World} (h : KeptQ Q a b) (k : KeptQ Q b c) : KeptQ Q a c := ⟨Nat.le_trans h.size k.size, fun i cur t f h1 h2 h3 h4 => k.same i cur t f (h.same i cur t f h1 h2 h3 h4) h2 h3 h4⟩
theorem KeptQ.kept {Q : Nat} {w w' : World} (h : Kept w w') (hs : w.heap.size ≤ w'.heap.size) : KeptQ Q w w' := ⟨hs, fun k cur t f h1 h2 h3 _ => h k cur t f h1 h2 h3⟩
theorem KeptQ.setq {Q : Nat} {w : World} (i : Nat) (v : Value) : KeptQ Q w (w.setCell ⟨Q, i, none⟩ v) := ⟨by simp [World.setCell], fun k cur t f h _ _ hk => (Below.heap_setCell _ _ _ _ (fun e => hk (by simpa using e))).trans h⟩
theorem HRow.neQ {w0 w : World} {Q H : Nat} {row : List E} {n : Nat} {cs : Array Value} (h : HRow w0 w H row n) (hq : w.heap[Q]? = some (.cells cs 96 (0, 0))) : Q ≠ H ∧ ∀ es v, At w H freshF [] v es n → v.ownBlock ≠ some Q := by
  obtain ⟨es, o, p⟩ := h.ex
  obtain ⟨v, h1, h2⟩ := o.ex
  refine ⟨fun e => ?_, fun es' v' h1' e => ?_⟩
  · rw [e, h1.hh] at hq; simp at hq
  · obtain ⟨cur, h3⟩ := own_typ h1'.own e
    rw [hq] at h3; simp at h3
/-- a cell of Q's written: the heap stays -/
theorem HRow.setq {w0 w : World} {Q H : Nat} {row : List E} {n : Nat} {cs : Array Value} (h : HRow w0 w H row n) (hq : w.heap[Q]? = some (.cells cs 96 (0, 0))) (i : Nat) (v : Value) : HRow w0 (w.setCell ⟨Q, i, none⟩ v) H row n := by
  have hne := h.neQ hq
  obtain ⟨es, o, p⟩ := h.ex
  obtain ⟨u, h1, h2⟩ := o.ex
  have a : Apart [Q] w (w.setCell ⟨Q, i, none⟩ v) := (Apart.refl _ _).setCell (by simp) _
  exact ⟨⟨es, ⟨⟨u, h1.kept a (fun k hk => by simp at hk; subst hk; exact ⟨hne.1, hne.2 _ _ h1, by simp⟩), h2⟩, o.hp, o.hH⟩, p⟩, h.up, h.di⟩
theorem Qu.kept {w0 w w' : World} {Q H : Nat} {row : List E} {n : Nat} {nw : Int} (h : Qu w0 w Q H row n nw) (a : Apart [] w w') : Qu w0 w' Q H row n nw :=
  ⟨(a.block Q (lt_of_heap h.hq) (by simp)).trans h.hq, h.hr.kept a, h.hQ, h.hm⟩
/-- what is written over elsewhere leaves a queue as it is -/
theorem Qu.other {w0 w w' : World} {Q H : Nat} {row : List E} {n : Nat} {nw : Int} {X : List Nat} (h : Qu w0 w Q H row n nw) (a : Apart X w w') (hX : ∀ k ∈ X, ∃ cur t f, w.heap[k]? = some (.cells cur t f) ∧ t ≠ 96 ∧ t ≠ 100 ∧ t ≠ 102) : Qu w0 w' Q H row n nw := by
  have hQX : Q ∉ X := fun hm => by
    obtain ⟨cur, t, f, h1, h2, _⟩ := hX Q hm
    rw [h.hq] at h1; simp at h1; exact h2 h1.2.1.symm
  refine ⟨(a.block Q (lt_of_heap h.hq) hQX).trans h.hq, ?_, h.hQ, h.hm⟩
  obtain ⟨es, o, p⟩ := h.hr.ex
  obtain ⟨u, h1, h2⟩ := o.ex
  refine ⟨⟨es, ⟨⟨u, h1.kept a (fun k hk => ?_), h2⟩, o.hp, o.hH⟩, p⟩, h.hr.up, h.hr.di⟩
  obtain ⟨cur, t, f, g1, g2, g3, g4⟩ := hX k hk
  refine ⟨fun e => ?_, fun e => ?_, by simp⟩
  · rw [e, h1.hh] at g1; simp at g1; exact g4 g1.2.1.symm
  · obtain ⟨c2, e2⟩ := own_typ h1.own e
    rw [g1] at e2; simp at e2; exact g3 e2.2.1
theorem own_new (w0 w : World) (hs : w0.heap.size ≤ w.heap.size) : HRow w0 (w.alloc (.cells #[freshF, .slice none 0 0, .int .i64 0] 102)) w.heap.size [] 0 :=
  ⟨⟨[], ⟨⟨_, At.new w (by simp), by simp [Value.ownBlock]⟩, Hp.nil _, hs⟩, List.Perm.refl _⟩, List.Pairwise.nil, List.Pairwise.nil⟩
theorem newQueue_ok (w0 w : World) (hs : w0.heap.size ≤ w.heap.size) : Calls Try.prog 15 #[] w fun r w' => r = .returned (.pointer (some ⟨w.heap.size + 1, 0, none⟩)) ∧ Qu w0 w' (w.heap.size + 1) w.heap.size [] 0 0 ∧ Apart [] w w' := by
  go_enter Try.func15, Try.ntmps15
  go_wp2_with fail
  refine (new_at _ _ _).mono ?_
  rintro r w' ⟨rfl, rfl⟩
  have h1 := own_new w0 w hs
  have a1 : Apart [] w (w.alloc (.cells #[freshF, .slice none 0 0, .int .i64 0] 102)) := (Apart.refl _ _).alloc _
  have hsz : (w.alloc (.cells #[freshF, .slice none 0 0, .int .i64 0] 102)).heap.size = w.heap.size + 1 := by simp
  have P : Hid (Qu w0 ((w.alloc (.cells #[freshF, .slice none 0 0, .int .i64 0] 102)).alloc (.cells #[.pointer (some ⟨w.heap.size, 0, none⟩), .int .i64 0, .int .i64 0] 96)) (w.heap.size + 1) w.heap.size [] 0 0 ∧ Apart [] w ((w.alloc (.cells #[freshF, .slice none 0 0, .int .i64 0] 102)).alloc (.cells #[.pointer (some ⟨w.heap.size, 0, none⟩), .int .i64 0, .int .i64 0] 96))) := by
    refine ⟨⟨?_, h1.kept ((Apart.refl _ _).alloc _), by omega, by simp⟩, a1.alloc _⟩
    have := heap_alloc_new (w.alloc (.cells #[freshF, .slice none 0 0, .int .i64 0] 102)) (.cells #[.pointer (some ⟨w.heap.size, 0, none⟩), .int .i64 0, .int .i64 0] 96)
    rw [hsz] at this
    exact this
  unfold freshF at P
  clear h1 a1 hsz
  go_wp2
  go_ret
  exact ⟨rfl, P.out⟩
def rowAdd (row : List E) (e : E) : List E := rowOf (row ++ [e])
structure ArmP (w0 w w' : World) (r : Ending) (Q H : Nat) (row : List E) (n : Nat) (nw due kind call : Int) : Prop where
  ex : r = .returned (.int .i64 ((n : Int) + 1)) ∧ Qu w0 w' Q H (rowAdd row ⟨due, (n : Int) + 1, kind, call, n⟩) (n + 1) nw ∧ Apart [] w0 w' ∧ KeptQ Q w w'
set_option maxHeartbeats 2000000 in
set_option maxRecDepth 100000 in
theorem arm_ok {w0 w : World} {Q H : Nat} {row : List E} {n : Nat} {nw : Int} (q : Qu w0 w Q H row n nw) (a0 : Apart [] w0 w) (hn : n < 3000000) (hl : row.length ≤ n) (due kind call : Int) :
    Calls Try.prog 16 #[.pointer (some ⟨Q, 0, none⟩), .int .i64 due, .int .i64 kind, .int .i64 call] w fun r w' => ArmP w0 w w' r Q H row n nw due kind call := by
  have hqs := lt_of_heap q.hq
  have c0 : w.cell? ⟨Q, 0, none⟩ = some (.pointer (some ⟨H, 0, none⟩)) := by rw [cell_of_row _ _ _ _ _ _ q.hq]; rfl
  have c1 : w.cell? ⟨Q, 1, none⟩ = some (.int .i64 (n : Int)) := by rw [cell_of_row _ _ _ _ _ _ q.hq]; rfl
  have f1 := frozen_of_row w Q 1 _ _ q.hq
  have hq1 : (w.setCell ⟨Q, 1, none⟩ (.int .i64 ((n : Int) + 1))).heap[Q]? = some (.cells #[.pointer (some ⟨H, 0, none⟩), .int .i64 ((n : Int) + 1), .int .i64 nw] 96 (0, 0)) := by rw [heap_setCell_same _ _ _ _ _ _ q.hq]; rfl
  have hr1 := q.hr.setq q.hq 1 (.int .i64 ((n : Int) + 1))
  have k1 : KeptQ Q w (w.setCell ⟨Q, 1, none⟩ (.int .i64 ((n : Int) + 1))) := KeptQ.setq 1 _
  have A1 : Apart [] w0 (w.setCell ⟨Q, 1, none⟩ (.int .i64 ((n : Int) + 1))) := a0.trans' ((Apart.refl [Q] w).setCell (by simp) _) (by simp; exact q.hQ)
  obtain ⟨es, o1, p1⟩ := hr1.ex
  have HO1 := hid (o1.kept ((Apart.refl [] _).drewN 1))
  have HA1 := hid (A1.drewN 1)
  have HLT : Hid (es.length < 4000000 ∧ n < 4000000) := ⟨by rw [p1.length_eq]; omega, by omega⟩
  have HKQ : ∀ X, Kept (w.setCell ⟨Q, 1, none⟩ (.int .i64 ((n : Int) + 1))).drew X → X.cell? ⟨Q, 0, none⟩ = some (.pointer (some ⟨H, 0, none⟩)) ∧ X.cell? ⟨Q, 1, none⟩ = some (.int .i64 ((n : Int) + 1)) := fun X k => by
    have := k Q _ _ _ hq1 (by decide) (by decide)
    exact ⟨by rw [cell_of_row _ _ _ _ _ _ this]; rfl, by rw [cell_of_row _ _ _ _ _ _ this]; rfl⟩
  have cqd := HKQ _ (fun k cur t f h _ _ => h)
  have HQ1 := hid hq1
  have HP1 := hid p1
  have HK1 := hid k1
  have HQ := hid q
  have HUP := hid hr1
  clear q o1 p1 hr1 k1 A1 hq1 a0
  go_enter Try.func16, Try.ntmps16
  go_wp2_with fail
  refine wp_region_held_drew (S := fun X => X.cell? ⟨Q, 0, none⟩ = some (.pointer (some ⟨H, 0, none⟩)) ∧ X.cell? ⟨Q, 1, none⟩ = some (.int .i64 ((n : Int) + 1))) (by kernel_rfl) cqd (fun hHeld => ?_)
  refine wpAnyH_take (i := 0) (oi := ⟨some 16, _, _, _, _, _⟩) (v := (.pointer (some ⟨Q, 0, none⟩))) rfl (by kernel_rfl) (by kernel_rfl) (by kernel_rfl) (fun _ _ _ h => h) (Or.inl ⟨by rfl, ?_⟩) (by assumption) ?_
  · intro W hSW; go_simp
  simp only [Act.put, List.setIfInBounds_toArray, List.set_cons_zero, List.set_cons_succ]
  refine wpAnyH_take (i := 1) (oi := ⟨some 17, _, _, _, _, _⟩) (v := (.pointer (some ⟨Q, 0, none⟩))) rfl (by kernel_rfl) (by kernel_rfl) (by kernel_rfl) (fun _ _ _ h => h) (Or.inl ⟨by rfl, ?_⟩) (by assumption) ?_
  · intro W hSW; go_simp
  simp only [Act.put, List.setIfInBounds_toArray, List.set_cons_zero, List.set_cons_succ]
  refine wpAnyH_take (i := 2) (oi := ⟨some 18, _, _, _, _, _⟩) (v := (.pointer (some ⟨Q, 0, none⟩))) rfl (by kernel_rfl) (by kernel_rfl) (by kernel_rfl) (fun _ _ _ h => h) (Or.inl ⟨by rfl, ?_⟩) (by assumption) ?_
  · intro W hSW; go_simp
  simp only [Act.put, List.setIfInBounds_toArray, List.set_cons_zero, List.set_cons_succ]
  refine wpAnyH_take (i := 3) (oi := ⟨some 19, _, _, _, _, _⟩) (v := (.pointer (some ⟨H, 0, none⟩))) rfl (by kernel_rfl) (by kernel_rfl) (by kernel_rfl) (fun _ _ _ h => h) (Or.inl ⟨by rfl, ?_⟩) (by assumption) ?_
  · intro W hSW; go_simp
  simp only [Act.put, List.setIfInBounds_toArray, List.set_cons_zero, List.set_cons_succ]
  refine wpAnyH_take (i := 4) (oi := ⟨some 20, _, _, _, _, _⟩) (v := (.int .i64 due)) rfl (by kernel_rfl) (by kernel_rfl) (by kernel_rfl) (fun _ _ _ h => h) (Or.inl ⟨by rfl, ?_⟩) (by assumption) ?_
  · intro W hSW; go_simp
  simp only [Act.put, List.setIfInBounds_toArray, List.set_cons_zero, List.set_cons_succ]
  refine wpAnyH_take (i := 5) (oi := ⟨some 21, _, _, _, _, _⟩) (v := (.pointer (some ⟨Q, 0, none⟩))) rfl (by kernel_rfl) (by kernel_rfl) (by kernel_rfl) (fun _ _ _ h => h) (Or.inl ⟨by rfl, ?_⟩) (by assumption) ?_
  · intro W hSW; go_simp
  simp only [Act.put, List.setIfInBounds_toArray, List.set_cons_zero, List.set_cons_succ]
  refine wpAnyH_take (i := 6) (oi := ⟨some 22, _, _, _, _, _⟩) (v := (.pointer (some ⟨Q, 0, none⟩))) rfl (by kernel_rfl) (by kernel_rfl) (by kernel_rfl) (fun _ _ _ h => h) (Or.inl ⟨by rfl, ?_⟩) (by assumption) ?_
  · intro W hSW; go_simp
  simp only [Act.put, List.setIfInBounds_toArray, List.set_cons_zero, List.set_cons_succ]
  refine wpAnyH_take (i := 7) (oi := ⟨some 23, _, _, _, _, _⟩) (v := (.pointer (some ⟨Q, 1, none⟩))) rfl (by kernel_rfl) (by kernel_rfl) (by kernel_rfl) (fun _ _ _ h => h) (Or.inl ⟨by rfl, ?_⟩) (by assumption) ?_
  · intro W hSW; go_simp
  simp only [Act.put, List.setIfInBounds_toArray, List.set_cons_zero, List.set_cons_succ]
  refine wpAnyH_take (i := 8) (oi := ⟨some 24, _, _, _, _, _⟩) (v := (.int .i64 ((n : Int) + 1))) rfl (by kernel_rfl) (by kernel_rfl) (by kernel_rfl) (fun _ _ _ h => h) (Or.inl ⟨by rfl, ?_⟩) (by assumption) ?_
  · intro W hSW; go_simp
  simp only [Act.put, List.setIfInBounds_toArray, List.set_cons_zero, List.set_cons_succ]
  refine wpAnyH_take (i := 9) (oi := ⟨some 25, _, _, _, _, _⟩) (v := (.int .i64 kind)) rfl (by kernel_rfl) (by kernel_rfl) (by kernel_rfl) (fun _ _ _ h => h) (Or.inl ⟨by rfl, ?_⟩) (by assumption) ?_
  · intro W hSW; go_simp
  simp only [Act.put, List.setIfInBounds_toArray, List.set_cons_zero, List.set_cons_succ]
  refine wpAnyH_take (i := 10) (oi := ⟨some 26, _, _, _, _, _⟩) (v := (.int .i64 call)) rfl (by kernel_rfl) (by kernel_rfl) (by kernel_rfl) (fun _ _ _ h => h) (Or.inl ⟨by rfl, ?_⟩) (by assumption) ?_
  · intro W hSW; go_simp
  simp only [Act.put, List.setIfInBounds_toArray, List.set_cons_zero, List.set_cons_succ]
  refine wpAnyH_take (i := 11) (oi := ⟨some 27, _, _, _, _, _⟩) (v := (.agg #[.int .i64 due, .int .i64 ((n : Int) + 1), .int .i64 kind, .int .i64 call])) rfl (by kernel_rfl) (by kernel_rfl) (by kernel_rfl) (fun _ _ _ h => h) (Or.inl ⟨by rfl, ?_⟩) (by assumption) ?_
  · intro W hSW; go_simp
  simp only [Act.put, List.setIfInBounds_toArray, List.set_cons_zero, List.set_cons_succ]
  refine wpAnyH_ready (rs := [12]) (by kernel_rfl) (by simp) ?_
  refine AllReadyH.cons rfl (fun KK hKK => ?_) AllReadyH.nil
  go_simp
  refine (own_push HO1.out due ((n : Int) + 1) kind call HLT.out.1 HLT.out.2 w0 HA1.out rfl).mono ?_
  rintro r w4 ⟨rfl, ⟨cs, o4, p4⟩, a4, s4, k4⟩
  dsimp only
  have hK4 := hid k4
  have hA4 := hid a4
  have hO4 := hid o4
  have hP4 := hid p4
  have cq4 := HKQ w4 k4
  clear k4 a4 o4 p4
  refine hKK.out _ _ cq4 (fun hHeld => ?_)
  clear hKK KK
  refine wpAnyH_done (by kernel_rfl) ?_ _
  have hqF := hK4.out Q _ _ _ HQ1.out (by decide) (by decide)
  have P : Hid (ArmP w0 w w4 (.returned (.int .i64 ((n : Int) + 1))) Q H row n nw due kind call) := by
    have hpm : cs.Perm (row ++ [⟨due, (n : Int) + 1, kind, call, n⟩]) := hP4.out.trans (HP1.out.append_right _)
    have hdi : Dist (row ++ [⟨due, (n : Int) + 1, kind, call, n⟩]) := by
      unfold Dist
      rw [List.pairwise_append]
      refine ⟨HUP.out.di, List.pairwise_singleton _ _, fun x hx y hy => ?_⟩
      simp at hy; subst hy
      have := HQ.out.hm x hx
      show x.a ≠ (n : Int)
      omega
    refine ⟨rfl, ⟨?_, ⟨⟨cs, hO4.out, hpm.trans (rowOf_perm _).symm⟩, rowOf_up _, hdi.perm (rowOf_perm _)⟩, HQ.out.hQ, ?_⟩, hA4.out, HK1.out.trans (KeptQ.kept hK4.out s4)⟩
    · rw [hqF]; rfl
    · intro e he
      have := (rowOf_perm _).subset he
      simp only [List.mem_append, List.mem_singleton] at this
      rcases this with h | rfl
      · have := HQ.out.hm e h; omega
      · exact ⟨by show (n : Int) + 1 = (n : Int) + 1; rfl, by show (0 : Int) ≤ n; omega, by show (n : Int) < ((n + 1 : Nat) : Int); omega⟩
  clear HKQ HO1 HA1 hqF
  obtain ⟨d0, d1⟩ := cq4
  go_wp2
  go_ret
  exact P.out
end Go.Proofs.Ytopmhacnopfifaa.tm
