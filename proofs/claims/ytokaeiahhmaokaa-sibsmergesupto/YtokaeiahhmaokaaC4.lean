import Derived.Test.YtokaeiahhmaokaaC3
namespace Go.Proofs.Ytokaeiahhmaokaa.ds
open Go.ChangeShapes Go.WideShapes Go.ChangeAt Go.RowKit Go.Sort
set_option linter.unusedVariables false
set_option linter.unusedSimpArgs false
theorem Nw.keepT {w0 w w' : World} {e size : Nat} {s : Sl} {us : List Value} {X : List Nat} (h : Nw w0 w e size s us) (a : Apart X w w') (ap : Apart [] w0 w') (hX : ∀ k ∈ X, ∀ cur, w.heap[k]? ≠ some (.cells cur e (0, 0))) : Nw w0 w' e size s us :=
  ⟨own_apart h.own a (fun k hk hm => by obtain ⟨cur, e1⟩ := own_typ h.own hk; exact hX k hm cur e1), h.new, ap⟩
/-- rows of bytes and of spans are as they were -/
structure KeepT (w w' : World) : Prop where
  b : ∀ (k : Nat) (cur : Array Value), w.heap[k]? = some (.cells cur 5 (0, 0)) → w'.heap[k]? = some (.cells cur 5 (0, 0))
  x : ∀ (k : Nat) (cur : Array Value), w.heap[k]? = some (.cells cur 38 (0, 0)) → w'.heap[k]? = some (.cells cur 38 (0, 0))
theorem KeepT.trans {a b c : World} (h : KeepT a b) (k : KeepT b c) : KeepT a c := ⟨fun i cur e => k.b i cur (h.b i cur e), fun i cur e => k.x i cur (h.x i cur e)⟩
theorem KeepT.of0 {w w' : World} (a : Apart [] w w') : KeepT w w' := ⟨fun k cur e => (a.block k (lt_of_heap e) (by simp)).trans e, fun k cur e => (a.block k (lt_of_heap e) (by simp)).trans e⟩
theorem KeepT.of {w w' : World} {X : List Nat} (a : Apart X w w') (hX : ∀ k ∈ X, ∀ cur, w.heap[k]? ≠ some (.cells cur 5 (0, 0)) ∧ w.heap[k]? ≠ some (.cells cur 38 (0, 0))) : KeepT w w' :=
  ⟨fun k cur e => (a.block k (lt_of_heap e) (fun m => (hX k m cur).1 e)).trans e, fun k cur e => (a.block k (lt_of_heap e) (fun m => (hX k m cur).2 e)).trans e⟩
theorem own_keptB {w w' : World} {base size : Nat} {v : Value} {n : Nat} {xs : List Value} (h : w.ownsRow base 5 size v n xs) (a : KeepT w w') : w'.ownsRow base 5 size v n xs := by
  obtain ⟨hl, ⟨hv, hz⟩ | ⟨g, cap, cur, rfl, hb, hr, hrest⟩⟩ := h
  · exact ⟨hl, .inl ⟨hv, hz⟩⟩
  · exact ⟨hl, .inr ⟨g, cap, cur, rfl, hb, a.b g cur hr, hrest⟩⟩
theorem own_keptX {w w' : World} {base size : Nat} {v : Value} {n : Nat} {xs : List Value} (h : w.ownsRow base 38 size v n xs) (a : KeepT w w') : w'.ownsRow base 38 size v n xs := by
  obtain ⟨hl, ⟨hv, hz⟩ | ⟨g, cap, cur, rfl, hb, hr, hrest⟩⟩ := h
  · exact ⟨hl, .inl ⟨hv, hz⟩⟩
  · exact ⟨hl, .inr ⟨g, cap, cur, rfl, hb, a.x g cur hr, hrest⟩⟩
theorem One.keptK {w w' : World} {e : E} {v x : Sl} {r : Wr} (h : One w e v x r) (a : KeepT w w') : One w' e v x r := { h with vo := own_keptB h.vo a, xo := own_keptX h.xo a }
/-- the three rows of what is lent -/
structure LR (w0 w : World) (LB : Nat) (s vv xx : Sl) (us vs xs : List Value) : Prop where
  blk : w.heap[LB]? = some (.cells #[s.v, vv.v, xx.v] 58 (0, 0))
  hLB : w0.heap.size ≤ LB
  list : Nw w0 w 28 6 s us
  vals : Nw w0 w 25 1 vv vs
  ctxs : Nw w0 w 26 1 xx xs
  ap : Apart [] w0 w
theorem LR.kept0 {w0 w w' : World} {LB : Nat} {s vv xx : Sl} {us vs xs : List Value} (h : LR w0 w LB s vv xx us vs xs) (a : Apart [] w w') : LR w0 w' LB s vv xx us vs xs :=
  ⟨(a.block _ (lt_of_heap h.blk) (by simp)).trans h.blk, h.hLB, h.list.kept a, h.vals.kept a, h.ctxs.kept a, h.ap.trans a⟩
theorem own_ne {w : World} {e size : Nat} {s : Sl} {us : List Value} (h : w.ownsRow 0 e size s.v s.n us) {k : Nat} (hk : k ∈ s.v.ownBlock.toList) (cur : Array Value) {t : TypeId} (ht : t ≠ e) : w.heap[k]? ≠ some (.cells cur t (0, 0)) := by
  obtain ⟨c, e1⟩ := own_typ h (k := k) (by simpa using hk)
  rw [e1]
  intro e2
  simp at e2
  exact ht e2.2.symm
theorem blk_ne {w : World} {k : Nat} {c : Array Value} {t0 : TypeId} (h : w.heap[k]? = some (.cells c t0 (0, 0))) (cur : Array Value) {t : TypeId} (ht : t ≠ t0) : w.heap[k]? ≠ some (.cells cur t (0, 0)) := by
  rw [h]
  intro e2
  simp at e2
  exact ht e2.2.symm

/-- one more in the vals -/
theorem LR.addV {w0 w : World} {LB : Nat} {s vv xx : Sl} {us vs xs : List Value} (h : LR w0 w LB s vv xx us vs xs) (x : Sl) (hn : vv.n ≤ 2000000) :
    ∃ s' w', (Builtin.append_ #[56, 56] 56 #[vv.v, .slice (some ⟨w.heap.size, 0, none⟩) 1 1]).run Try.prog (w.alloc (.cells #[x.v] 25)) = .ok (Sl.v s') w' ∧ w'.heap[LB]? = some (.cells #[s.v, vv.v, xx.v] 58 (0, 0)) ∧ Apart [] w0 w' ∧
      LR w0 (w'.setCell ⟨LB, 1, none⟩ s'.v) LB s s' xx us (vs ++ [x.v]) xs ∧ s'.n = vv.n + 1 ∧ KeepT w (w'.setCell ⟨LB, 1, none⟩ s'.v) := by
  obtain ⟨i0, hi, hz0, hz1, hz2⟩ := info_parts infoV
  obtain ⟨s', w', hrun, n5, hs5, ap5, k5, hk5, hc5, hkk⟩ := run_appM 56 56 25 i0 _ 1 24 Try.underlying56 hi hz0 hz1 hz2 rfl (by decide) h.vals 1 [x.v] (by decide) rfl (oneS [x]) (by unfold maxLen; omega) (by omega)
  have apw : Apart [] w0 w' := n5.ap
  have b5 : w'.heap[LB]? = some (.cells #[s.v, vv.v, xx.v] 58 (0, 0)) := (ap5.block LB (lt_of_heap h.blk) (fun m => own_ne h.vals.own m _ (by decide) h.blk)).trans h.blk
  have ag : Apart [LB] w' (w'.setCell ⟨LB, 1, none⟩ s'.v) := (Apart.refl _ _).setCell (.inl (by simp)) _
  have b6 : (w'.setCell ⟨LB, 1, none⟩ s'.v).heap[LB]? = some (.cells #[s.v, s'.v, xx.v] 58 (0, 0)) := by
    have := heap_setCell_same w' LB 1 _ 58 s'.v b5
    simpa using this
  refine ⟨s', w', hrun, b5, apw, ⟨b6, h.hLB, (h.list.keepT ap5 apw (fun k hk cur => own_ne h.vals.own hk cur (by decide))).keepT ag (apw.trans' ag (by simp; exact h.hLB)) (fun k hk cur => by simp at hk; subst hk; exact blk_ne b5 cur (by decide)), n5.keepT ag (apw.trans' ag (by simp; exact h.hLB)) (fun k hk cur => by simp at hk; subst hk; exact blk_ne b5 cur (by decide)), (h.ctxs.keepT ap5 apw (fun k hk cur => own_ne h.vals.own hk cur (by decide))).keepT ag (apw.trans' ag (by simp; exact h.hLB)) (fun k hk cur => by simp at hk; subst hk; exact blk_ne b5 cur (by decide)), apw.trans' ag (by simp; exact h.hLB)⟩, hs5, ?_⟩
  exact (KeepT.of ap5 (fun k hk cur => ⟨own_ne h.vals.own hk cur (by decide), own_ne h.vals.own hk cur (by decide)⟩)).trans (KeepT.of ag (fun k hk cur => by simp at hk; subst hk; exact ⟨blk_ne b5 cur (by decide), blk_ne b5 cur (by decide)⟩))

/-- one more in the ctxs -/
theorem LR.addX {w0 w : World} {LB : Nat} {s vv xx : Sl} {us vs xs : List Value} (h : LR w0 w LB s vv xx us vs xs) (x : Sl) (hn : xx.n ≤ 2000000) :
    ∃ s' w', (Builtin.append_ #[29, 29] 29 #[xx.v, .slice (some ⟨w.heap.size, 0, none⟩) 1 1]).run Try.prog (w.alloc (.cells #[x.v] 26)) = .ok (Sl.v s') w' ∧ w'.heap[LB]? = some (.cells #[s.v, vv.v, xx.v] 58 (0, 0)) ∧ Apart [] w0 w' ∧
      LR w0 (w'.setCell ⟨LB, 2, none⟩ s'.v) LB s vv s' us vs (xs ++ [x.v]) ∧ s'.n = xx.n + 1 ∧ KeepT w (w'.setCell ⟨LB, 2, none⟩ s'.v) := by
  obtain ⟨i0, hi, hz0, hz1, hz2⟩ := info_parts infoX
  obtain ⟨s', w', hrun, n5, hs5, ap5, k5, hk5, hc5, hkk⟩ := run_appM 29 29 26 i0 _ 1 24 Try.underlying29 hi hz0 hz1 hz2 rfl (by decide) h.ctxs 1 [x.v] (by decide) rfl (oneS [x]) (by unfold maxLen; omega) (by omega)
  have apw : Apart [] w0 w' := n5.ap
  have b5 : w'.heap[LB]? = some (.cells #[s.v, vv.v, xx.v] 58 (0, 0)) := (ap5.block LB (lt_of_heap h.blk) (fun m => own_ne h.ctxs.own m _ (by decide) h.blk)).trans h.blk
  have ag : Apart [LB] w' (w'.setCell ⟨LB, 2, none⟩ s'.v) := (Apart.refl _ _).setCell (.inl (by simp)) _
  have b6 : (w'.setCell ⟨LB, 2, none⟩ s'.v).heap[LB]? = some (.cells #[s.v, vv.v, s'.v] 58 (0, 0)) := by
    have := heap_setCell_same w' LB 2 _ 58 s'.v b5
    simpa using this
  refine ⟨s', w', hrun, b5, apw, ⟨b6, h.hLB, (h.list.keepT ap5 apw (fun k hk cur => own_ne h.ctxs.own hk cur (by decide))).keepT ag (apw.trans' ag (by simp; exact h.hLB)) (fun k hk cur => by simp at hk; subst hk; exact blk_ne b5 cur (by decide)), (h.vals.keepT ap5 apw (fun k hk cur => own_ne h.ctxs.own hk cur (by decide))).keepT ag (apw.trans' ag (by simp; exact h.hLB)) (fun k hk cur => by simp at hk; subst hk; exact blk_ne b5 cur (by decide)), n5.keepT ag (apw.trans' ag (by simp; exact h.hLB)) (fun k hk cur => by simp at hk; subst hk; exact blk_ne b5 cur (by decide)), apw.trans' ag (by simp; exact h.hLB)⟩, hs5, ?_⟩
  exact (KeepT.of ap5 (fun k hk cur => ⟨own_ne h.ctxs.own hk cur (by decide), own_ne h.ctxs.own hk cur (by decide)⟩)).trans (KeepT.of ag (fun k hk cur => by simp at hk; subst hk; exact ⟨blk_ne b5 cur (by decide), blk_ne b5 cur (by decide)⟩))

/-- one more in the list -/
theorem LR.addE {w0 w : World} {LB : Nat} {s vv xx : Sl} {us vs xs : List Value} (h : LR w0 w LB s vv xx us vs xs) (e : E) (hn : s.n ≤ 2000000) :
    ∃ s' w', (Builtin.append_ #[34, 34] 34 #[s.v, .slice (some ⟨w.heap.size, 0, none⟩) 1 1]).run Try.prog (w.alloc (boxE e)) = .ok (Sl.v s') w' ∧ w'.heap[LB]? = some (.cells #[s.v, vv.v, xx.v] 58 (0, 0)) ∧ Apart [] w0 w' ∧
      LR w0 (w'.setCell ⟨LB, 0, none⟩ s'.v) LB s' vv xx (us ++ (E.cs e)) vs xs ∧ s'.n = s.n + 1 ∧ KeepT w (w'.setCell ⟨LB, 0, none⟩ s'.v) := by
  obtain ⟨i0, hi, hz0, hz1, hz2⟩ := info_parts infoW
  obtain ⟨s', w', hrun, n5, hs5, ap5, k5, hk5, hc5, hkk⟩ := run_appM 34 34 28 i0 _ 6 88 Try.underlying34 hi hz0 hz1 hz2 rfl (by decide) h.list 1 (E.cs e) (by decide) rfl (fun v hv => oneE [e] v (by simpa [flatE] using hv)) (by unfold maxLen; omega) (by omega)
  have apw : Apart [] w0 w' := n5.ap
  have b5 : w'.heap[LB]? = some (.cells #[s.v, vv.v, xx.v] 58 (0, 0)) := (ap5.block LB (lt_of_heap h.blk) (fun m => own_ne h.list.own m _ (by decide) h.blk)).trans h.blk
  have ag : Apart [LB] w' (w'.setCell ⟨LB, 0, none⟩ s'.v) := (Apart.refl _ _).setCell (.inl (by simp)) _
  have b6 : (w'.setCell ⟨LB, 0, none⟩ s'.v).heap[LB]? = some (.cells #[s'.v, vv.v, xx.v] 58 (0, 0)) := by
    have := heap_setCell_same w' LB 0 _ 58 s'.v b5
    simpa using this
  refine ⟨s', w', hrun, b5, apw, ⟨b6, h.hLB, n5.keepT ag (apw.trans' ag (by simp; exact h.hLB)) (fun k hk cur => by simp at hk; subst hk; exact blk_ne b5 cur (by decide)), (h.vals.keepT ap5 apw (fun k hk cur => own_ne h.list.own hk cur (by decide))).keepT ag (apw.trans' ag (by simp; exact h.hLB)) (fun k hk cur => by simp at hk; subst hk; exact blk_ne b5 cur (by decide)), (h.ctxs.keepT ap5 apw (fun k hk cur => own_ne h.list.own hk cur (by decide))).keepT ag (apw.trans' ag (by simp; exact h.hLB)) (fun k hk cur => by simp at hk; subst hk; exact blk_ne b5 cur (by decide)), apw.trans' ag (by simp; exact h.hLB)⟩, hs5, ?_⟩
  exact (KeepT.of ap5 (fun k hk cur => ⟨own_ne h.list.own hk cur (by decide), own_ne h.list.own hk cur (by decide)⟩)).trans (KeepT.of ag (fun k hk cur => by simp at hk; subst hk; exact ⟨blk_ne b5 cur (by decide), blk_ne b5 cur (by decide)⟩))
end Go.Proofs.Ytokaeiahhmaokaa.ds
