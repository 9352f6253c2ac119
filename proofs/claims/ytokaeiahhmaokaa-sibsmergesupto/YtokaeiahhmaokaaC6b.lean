import Derived.Test.YtokaeiahhmaokaaC6
namespace Go.Proofs.Ytokaeiahhmaokaa.ds
open Go.ChangeShapes Go.WideShapes Go.ChangeAt Go.RowKit Go.Sort
set_option linter.unusedVariables false
set_option linter.unusedSimpArgs false

/-- one more in the list -/
theorem LR.addM {w0 w : World} {LB : Nat} {s vv xx : Sl} {us vs xs : List Value} (h : LR w0 w LB s vv xx us vs xs)  (hn : s.n ≤ 2000000) :
    ∃ s' w', (Builtin.append_ #[34, 34] 34 #[s.v, .slice (some ⟨w.heap.size, 0, none⟩) 2 2]).run Try.prog (w.alloc (.cells (E.cs markE ++ E.cs markE).toArray 28)) = .ok (Sl.v s') w' ∧ w'.heap[LB]? = some (.cells #[s.v, vv.v, xx.v] 58 (0, 0)) ∧ Apart [] w0 w' ∧
      LR w0 (w'.setCell ⟨LB, 0, none⟩ s'.v) LB s' vv xx (us ++ (E.cs markE ++ E.cs markE)) vs xs ∧ s'.n = s.n + 2 ∧ (∃ k, s'.p = some ⟨k, 0, none⟩) ∧ KeepT w (w'.setCell ⟨LB, 0, none⟩ s'.v) := by
  obtain ⟨i0, hi, hz0, hz1, hz2⟩ := info_parts infoW
  obtain ⟨s', w', hrun, n5, hs5, ap5, k5, hk5, hc5, hkk⟩ := run_appM 34 34 28 i0 _ 6 88 Try.underlying34 hi hz0 hz1 hz2 rfl (by decide) h.list 2 (E.cs markE ++ E.cs markE) (by decide) rfl (fun v hv => oneE [markE, markE] v (by simpa [flatE] using hv)) (by unfold maxLen; omega) (by omega)
  have apw : Apart [] w0 w' := n5.ap
  have b5 : w'.heap[LB]? = some (.cells #[s.v, vv.v, xx.v] 58 (0, 0)) := (ap5.block LB (lt_of_heap h.blk) (fun m => own_ne h.list.own m _ (by decide) h.blk)).trans h.blk
  have ag : Apart [LB] w' (w'.setCell ⟨LB, 0, none⟩ s'.v) := (Apart.refl _ _).setCell (.inl (by simp)) _
  have b6 : (w'.setCell ⟨LB, 0, none⟩ s'.v).heap[LB]? = some (.cells #[s'.v, vv.v, xx.v] 58 (0, 0)) := by
    have := heap_setCell_same w' LB 0 _ 58 s'.v b5
    simpa using this
  refine ⟨s', w', hrun, b5, apw, ⟨b6, h.hLB, n5.keepT ag (apw.trans' ag (by simp; exact h.hLB)) (fun k hk cur => by simp at hk; subst hk; exact blk_ne b5 cur (by decide)), (h.vals.keepT ap5 apw (fun k hk cur => own_ne h.list.own hk cur (by decide))).keepT ag (apw.trans' ag (by simp; exact h.hLB)) (fun k hk cur => by simp at hk; subst hk; exact blk_ne b5 cur (by decide)), (h.ctxs.keepT ap5 apw (fun k hk cur => own_ne h.list.own hk cur (by decide))).keepT ag (apw.trans' ag (by simp; exact h.hLB)) (fun k hk cur => by simp at hk; subst hk; exact blk_ne b5 cur (by decide)), apw.trans' ag (by simp; exact h.hLB)⟩, hs5, ⟨k5, hk5⟩, ?_⟩
  exact (KeepT.of ap5 (fun k hk cur => ⟨own_ne h.list.own hk cur (by decide), own_ne h.list.own hk cur (by decide)⟩)).trans (KeepT.of ag (fun k hk cur => by simp at hk; subst hk; exact ⟨blk_ne b5 cur (by decide), blk_ne b5 cur (by decide)⟩))

theorem buildM (W : World) : Sem.run Try.prog (Instr.buildSlice 34 2 #[(0, markE.agg), (1, markE.agg)]) W = .ok (.slice (some ⟨W.heap.size, 0, none⟩) 2 2) (W.alloc (.cells (E.cs markE ++ E.cs markE).toArray 28)) := by
  obtain ⟨ie, hi, hz0, hz1, hz2⟩ := info_parts infoW
  refine run_buildSlice W 34 28 2 _ _ ie _ Try.underlying34 hi hz0 (by rw [hz1]; decide) (by rw [hz1]; decide) ?_
  rw [hz1]
  first | rfl | (simp [Instr.fill, Array.range, Value.cells, Array.ofFn, E.agg]; done) | kernel_rfl
/-- a list that is lent: its memory lies from lo on and ahead of hi -/
structure Lt (lo hi : Nat) (w : World) (LB G c : Nat) (vv xx : Sl) (fs : List E) (vs xs : List Sl) (rs : List Wr) (N : Nat) : Prop where
  blk : w.heap[LB]? = some (.cells #[.slice (some ⟨G, 0, none⟩) (N + 2) c, vv.v, xx.v] 58 (0, 0))
  list : w.ownsRow 0 28 6 (.slice (some ⟨G, 0, none⟩) (N + 2) c) (N + 2) (flatE (fs ++ [markE, markE]))
  vals : w.ownsRow 0 25 1 vv.v vv.n (vs.map Sl.v)
  ctxs : w.ownsRow 0 26 1 xx.v xx.n (xs.map Sl.v)
  fl : fs.length = N
  vl : vs.length = N
  vvn : vv.n = N
  xl : xs.length = N
  xxn : xx.n = N
  one : ∀ j, j < N → One w (gE fs j) (gS vs j) (gS xs j) (gR rs j)
  incv : ∀ j m, j < m → m < N → ∀ k q, (gS vs j).v.ownBlock = some k → (gS vs m).v.ownBlock = some q → k < q
  incx : ∀ j m, j < m → m < N → ∀ k q, (gS xs j).v.ownBlock = some k → (gS xs m).v.ownBlock = some q → k < q
  rLB : lo ≤ LB ∧ LB < hi
  rG : lo ≤ G ∧ G < hi
  rvv : ∀ k, vv.v.ownBlock = some k → lo ≤ k ∧ k < hi
  rxx : ∀ k, xx.v.ownBlock = some k → lo ≤ k ∧ k < hi
  rv : ∀ j, j < N → ∀ k, (gS vs j).v.ownBlock = some k → lo ≤ k ∧ k < hi
  rx : ∀ j, j < N → ∀ k, (gS xs j).v.ownBlock = some k → lo ≤ k ∧ k < hi
  sz : hi ≤ w.heap.size
theorem Lt.make {w0 wr W : World} {LB G : Nat} {s s' vv xx : Sl} {fs : List E} {vs xs : List Sl} {rs : List Wr} {N : Nat} (h : LI w0 wr LB s vv xx fs vs xs rs N) (lr : LR w0 W LB s' vv xx (flatE (fs ++ [markE, markE])) (vs.map Sl.v) (xs.map Sl.v)) (kt : KeepT wr W) (hp : s'.p = some ⟨G, 0, none⟩) (hn : s'.n = N + 2) : Lt w0.heap.size W.heap.size W LB G s'.c vv xx fs vs xs rs N := by
  obtain ⟨p, n, c⟩ := s'
  simp only at hp hn
  subst hp hn
  have b := lr.blk
  have l := lr.list
  have one : ∀ j, j < N → One W (gE fs j) (gS vs j) (gS xs j) (gR rs j) := fun j hj => (h.one j hj).keptK kt
  refine ⟨b, l.own, lr.vals.own, lr.ctxs.own, h.fl, h.vl, h.vvn, h.xl, h.xxn, one, h.incv, h.incx, ⟨lr.hLB, lt_of_heap b⟩, ⟨l.new G rfl, (l.own.lt G rfl).2⟩, fun k hk => ⟨lr.vals.new k hk, (lr.vals.own.lt k hk).2⟩, fun k hk => ⟨lr.ctxs.new k hk, (lr.ctxs.own.lt k hk).2⟩, fun j hj k hk => ⟨h.newv j hj k hk, ((one j hj).vo.lt k hk).2⟩, fun j hj k hk => ⟨h.newx j hj k hk, ((one j hj).xo.lt k hk).2⟩, Nat.le_refl _⟩
end Go.Proofs.Ytokaeiahhmaokaa.ds
