import Derived.Test.YtokaeiahhmaokaaGreatDoorV14
import Derived.Test.YtokaeiahhmaokaaGreatDoorV1
namespace Go.Proofs.YtokaeiahhmaokaaGreatDoor.ds
open Go.ChangeShapes Go.WideShapes Go.ChangeAt Go.RowKit Go.Sort
set_option linter.unusedVariables false
set_option linter.unusedSimpArgs false
theorem Nw.keepT {w0 w w' : World} {e size : Nat} {s : Sl} {us : List Value} {X : List Nat} (h : Nw w0 w e size s us) (a : Apart X w w') (ap : Apart [] w0 w') (hX : ∀ k ∈ X, ∀ cur, w.heap[k]? ≠ some (.cells cur e (0, 0))) : Nw w0 w' e size s us :=
  ⟨own_apart h.own a (fun k hk hm => by obtain ⟨cur, e1⟩ := own_typ h.own hk; exact hX k hm cur e1), h.new, ap⟩
/-- rows of bytes and of spans are as they were -/
structure KeepT (w w' : World) : Prop where
  b : ∀ (k : Nat) (cur : Array Value), w.heap[k]? = some (.cells cur 5 (0, 0)) → w'.heap[k]? = some (.cells cur 5 (0, 0))
  x : ∀ (k : Nat) (cur : Array Value), w.heap[k]? = some (.cells cur 47 (0, 0)) → w'.heap[k]? = some (.cells cur 47 (0, 0))
theorem KeepT.trans {a b c : World} (h : KeepT a b) (k : KeepT b c) : KeepT a c := ⟨fun i cur e => k.b i cur (h.b i cur e), fun i cur e => k.x i cur (h.x i cur e)⟩
theorem KeepT.of0 {w w' : World} (a : Apart [] w w') : KeepT w w' := ⟨fun k cur e => (a.block k (lt_of_heap e) (by simp)).trans e, fun k cur e => (a.block k (lt_of_heap e) (by simp)).trans e⟩
theorem KeepT.of {w w' : World} {X : List Nat} (a : Apart X w w') (hX : ∀ k ∈ X, ∀ cur, w.heap[k]? ≠ some (.cells cur 5 (0, 0)) ∧ w.heap[k]? ≠ some (.cells cur 47 (0, 0))) : KeepT w w' :=
  ⟨fun k cur e => (a.block k (lt_of_heap e) (fun m => (hX k m cur).1 e)).trans e, fun k cur e => (a.block k (lt_of_heap e) (fun m => (hX k m cur).2 e)).trans e⟩
theorem own_keptB {w w' : World} {base size : Nat} {v : Value} {n : Nat} {xs : List Value} (h : w.ownsRow base 5 size v n xs) (a : KeepT w w') : w'.ownsRow base 5 size v n xs := by
  obtain ⟨hl, ⟨hv, hz⟩ | ⟨g, cap, cur, rfl, hb, hr, hrest⟩⟩ := h
  · exact ⟨hl, .inl ⟨hv, hz⟩⟩
  · exact ⟨hl, .inr ⟨g, cap, cur, rfl, hb, a.b g cur hr, hrest⟩⟩
theorem own_keptX {w w' : World} {base size : Nat} {v : Value} {n : Nat} {xs : List Value} (h : w.ownsRow base 47 size v n xs) (a : KeepT w w') : w'.ownsRow base 47 size v n xs := by
  obtain ⟨hl, ⟨hv, hz⟩ | ⟨g, cap, cur, rfl, hb, hr, hrest⟩⟩ := h
  · exact ⟨hl, .inl ⟨hv, hz⟩⟩
  · exact ⟨hl, .inr ⟨g, cap, cur, rfl, hb, a.x g cur hr, hrest⟩⟩
theorem One.keptK {w w' : World} {e : E} {v x : Sl} {r : Wr} (h : One w e v x r) (a : KeepT w w') : One w' e v x r := { h with vo := own_keptB h.vo a, xo := own_keptX h.xo a }
/-- the three rows of what is lent -/
structure LR (w0 w : World) (LB : Nat) (s vv xx : Sl) (us vs xs : List Value) : Prop where
  blk : w.heap[LB]? = some (.cells #[s.v, vv.v, xx.v] 62 (0, 0))
  hLB : w0.heap.size ≤ LB
  list : Nw w0 w 28 6 s us
  vals : Nw w0 w 25 1 vv vs
  ctxs : Nw w0 w 26 1 xx xs
  ap : Apart [] w0 w
theorem LR.kept0 {w0 w w' : World} {LB : Nat} {s vv xx : Sl} {us vs xs : List Value} (h : LR w0 w LB s vv xx us vs xs) (a : Apart [] w w') : LR w0 w' LB s vv xx us vs xs :=
  ⟨(a.block _ (lt_of_heap h.blk) (by simp)).trans h.blk, h.hLB, h.list.kept a, h.vals.kept a, h.ctxs.kept a, h.ap.trans a⟩
theorem own_ne {w : World} {e size : Nat} {s : Sl} {us : List Value} (h : w.ownsRow 0 e size s.v s.n us) {k : Nat} (hk : k ∈ s.v.ownBlock.toList) (cur : Array Value) {t : TypeId} (ht : t ≠ e) : w.heap[k]? ≠ some (.cells cur t (0, 0)) := by
  obtain ⟨c, e1⟩ := own_typ h (k := k) (by simpa using hk)
  rw [e1]
  intro e2
  simp at e2
  exact ht e2.2.symm
theorem blk_ne {w : World} {k : Nat} {c : Array Value} {t0 : TypeId} (h : w.heap[k]? = some (.cells c t0 (0, 0))) (cur : Array Value) {t : TypeId} (ht : t ≠ t0) : w.heap[k]? ≠ some (.cells cur t (0, 0)) := by
  rw [h]
  intro e2
  simp at e2
  exact ht e2.2.symm

/-- one more in the vals -/
theorem LR.addV {w0 w : World} {LB : Nat} {s vv xx : Sl} {us vs xs : List Value} (h : LR w0 w LB s vv xx us vs xs) (x : Sl) (hn : vv.n ≤ 2000000) :
    ∃ s' w', (Builtin.append_ #[60, 60] 60 #[vv.v, .slice (some ⟨w.heap.size, 0, none⟩) 1 1]).run Tryz.prog (w.alloc (.cells #[x.v] 25)) = .ok (Sl.v s') w' ∧ w'.heap[LB]? = some (.cells #[s.v, vv.v, xx.v] 62 (0, 0)) ∧ Apart [] w0 w' ∧
      LR w0 (w'.setCell ⟨LB, 1, none⟩ s'.v) LB s s' xx us (vs ++ [x.v]) xs ∧ s'.n = vv.n + 1 ∧ KeepT w (w'.setCell ⟨LB, 1, none⟩ s'.v) := by
  obtain ⟨i0, hi, hz0, hz1, hz2⟩ := info_parts infoV
  obtain ⟨s', w', hrun, n5, hs5, ap5, k5, hk5, hc5, hkk⟩ := run_appM 60 60 25 i0 _ 1 24 Tryz.underlying60 hi hz0 hz1 hz2 rfl (by decide) h.vals 1 [x.v] (by decide) rfl (oneS [x]) (by unfold maxLen; omega) (by omega)
  have apw : Apart [] w0 w' := n5.ap
  have b5 : w'.heap[LB]? = some (.cells #[s.v, vv.v, xx.v] 62 (0, 0)) := (ap5.block LB (lt_of_heap h.blk) (fun m => own_ne h.vals.own m _ (by decide) h.blk)).trans h.blk
  have ag : Apart [LB] w' (w'.setCell ⟨LB, 1, none⟩ s'.v) := (Apart.refl _ _).setCell (.inl (by simp)) _
  have b6 : (w'.setCell ⟨LB, 1, none⟩ s'.v).heap[LB]? = some (.cells #[s.v, s'.v, xx.v] 62 (0, 0)) := by
    have := heap_setCell_same w' LB 1 _ 62 s'.v b5
    simpa using this
  refine ⟨s', w', hrun, b5, apw, ⟨b6, h.hLB, (h.list.keepT ap5 apw (fun k hk cur => own_ne h.vals.own hk cur (by decide))).keepT ag (apw.trans' ag (by simp; exact h.hLB)) (fun k hk cur => by simp at hk; subst hk; exact blk_ne b5 cur (by decide)), n5.keepT ag (apw.trans' ag (by simp; exact h.hLB)) (fun k hk cur => by simp at hk; subst hk; exact blk_ne b5 cur (by decide)), (h.ctxs.keepT ap5 apw (fun k hk cur => own_ne h.vals.own hk cur (by decide))).keepT ag (apw.trans' ag (by simp; exact h.hLB)) (fun k hk cur => by simp at hk; subst hk; exact blk_ne b5 cur (by decide)), apw.trans' ag (by simp; exact h.hLB)⟩, hs5, ?_⟩
  exact (KeepT.of ap5 (fun k hk cur => ⟨own_ne h.vals.own hk cur (by decide), own_ne h.vals.own hk cur (by decide)⟩)).trans (KeepT.of ag (fun k hk cur => by simp at hk; subst hk; exact ⟨blk_ne b5 cur (by decide), blk_ne b5 cur (by decide)⟩))

/-- one more in the ctxs -/
theorem LR.addX {w0 w : World} {LB : Nat} {s vv xx : Sl} {us vs xs : List Value} (h : LR w0 w LB s vv xx us vs xs) (x : Sl) (hn : xx.n ≤ 2000000) :
    ∃ s' w', (Builtin.append_ #[29, 29] 29 #[xx.v, .slice (some ⟨w.heap.size, 0, none⟩) 1 1]).run Tryz.prog (w.alloc (.cells #[x.v] 26)) = .ok (Sl.v s') w' ∧ w'.heap[LB]? = some (.cells #[s.v, vv.v, xx.v] 62 (0, 0)) ∧ Apart [] w0 w' ∧
      LR w0 (w'.setCell ⟨LB, 2, none⟩ s'.v) LB s vv s' us vs (xs ++ [x.v]) ∧ s'.n = xx.n + 1 ∧ KeepT w (w'.setCell ⟨LB, 2, none⟩ s'.v) := by
  obtain ⟨i0, hi, hz0, hz1, hz2⟩ := info_parts infoX
  obtain ⟨s', w', hrun, n5, hs5, ap5, k5, hk5, hc5, hkk⟩ := run_appM 29 29 26 i0 _ 1 24 Tryz.underlying29 hi hz0 hz1 hz2 rfl (by decide) h.ctxs 1 [x.v] (by decide) rfl (oneS [x]) (by unfold maxLen; omega) (by omega)
  have apw : Apart [] w0 w' := n5.ap
  have b5 : w'.heap[LB]? = some (.cells #[s.v, vv.v, xx.v] 62 (0, 0)) := (ap5.block LB (lt_of_heap h.blk) (fun m => own_ne h.ctxs.own m _ (by decide) h.blk)).trans h.blk
  have ag : Apart [LB] w' (w'.setCell ⟨LB, 2, none⟩ s'.v) := (Apart.refl _ _).setCell (.inl (by simp)) _
  have b6 : (w'.setCell ⟨LB, 2, none⟩ s'.v).heap[LB]? = some (.cells #[s.v, vv.v, s'.v] 62 (0, 0)) := by
    have := heap_setCell_same w' LB 2 _ 62 s'.v b5
    simpa using this
  refine ⟨s', w', hrun, b5, apw, ⟨b6, h.hLB, (h.list.keepT ap5 apw (fun k hk cur => own_ne h.ctxs.own hk cur (by decide))).keepT ag (apw.trans' ag (by simp; exact h.hLB)) (fun k hk cur => by simp at hk; subst hk; exact blk_ne b5 cur (by decide)), (h.vals.keepT ap5 apw (fun k hk cur => own_ne h.ctxs.own hk cur (by decide))).keepT ag (apw.trans' ag (by simp; exact h.hLB)) (fun k hk cur => by simp at hk; subst hk; exact blk_ne b5 cur (by decide)), n5.keepT ag (apw.trans' ag (by simp; exact h.hLB)) (fun k hk cur => by simp at hk; subst hk; exact blk_ne b5 cur (by decide)), apw.trans' ag (by simp; exact h.hLB)⟩, hs5, ?_⟩
  exact (KeepT.of ap5 (fun k hk cur => ⟨own_ne h.ctxs.own hk cur (by decide), own_ne h.ctxs.own hk cur (by decide)⟩)).trans (KeepT.of ag (fun k hk cur => by simp at hk; subst hk; exact ⟨blk_ne b5 cur (by decide), blk_ne b5 cur (by decide)⟩))

/-- one more in the list -/
theorem LR.addE {w0 w : World} {LB : Nat} {s vv xx : Sl} {us vs xs : List Value} (h : LR w0 w LB s vv xx us vs xs) (e : E) (hn : s.n ≤ 2000000) :
    ∃ s' w', (Builtin.append_ #[35, 35] 35 #[s.v, .slice (some ⟨w.heap.size, 0, none⟩) 1 1]).run Tryz.prog (w.alloc (boxE e)) = .ok (Sl.v s') w' ∧ w'.heap[LB]? = some (.cells #[s.v, vv.v, xx.v] 62 (0, 0)) ∧ Apart [] w0 w' ∧
      LR w0 (w'.setCell ⟨LB, 0, none⟩ s'.v) LB s' vv xx (us ++ (E.cs e)) vs xs ∧ s'.n = s.n + 1 ∧ KeepT w (w'.setCell ⟨LB, 0, none⟩ s'.v) := by
  obtain ⟨i0, hi, hz0, hz1, hz2⟩ := info_parts infoW
  obtain ⟨s', w', hrun, n5, hs5, ap5, k5, hk5, hc5, hkk⟩ := run_appM 35 35 28 i0 _ 6 88 Tryz.underlying35 hi hz0 hz1 hz2 rfl (by decide) h.list 1 (E.cs e) (by decide) rfl (fun v hv => oneE [e] v (by simpa [flatE] using hv)) (by unfold maxLen; omega) (by omega)
  have apw : Apart [] w0 w' := n5.ap
  have b5 : w'.heap[LB]? = some (.cells #[s.v, vv.v, xx.v] 62 (0, 0)) := (ap5.block LB (lt_of_heap h.blk) (fun m => own_ne h.list.own m _ (by decide) h.blk)).trans h.blk
  have ag : Apart [LB] w' (w'.setCell ⟨LB, 0, none⟩ s'.v) := (Apart.refl _ _).setCell (.inl (by simp)) _
  have b6 : (w'.setCell ⟨LB, 0, none⟩ s'.v).heap[LB]? = some (.cells #[s'.v, vv.v, xx.v] 62 (0, 0)) := by
    have := heap_setCell_same w' LB 0 _ 62 s'.v b5
    simpa using this
  refine ⟨s', w', hrun, b5, apw, ⟨b6, h.hLB, n5.keepT ag (apw.trans' ag (by simp; exact h.hLB)) (fun k hk cur => by simp at hk; subst hk; exact blk_ne b5 cur (by decide)), (h.vals.keepT ap5 apw (fun k hk cur => own_ne h.list.own hk cur (by decide))).keepT ag (apw.trans' ag (by simp; exact h.hLB)) (fun k hk cur => by simp at hk; subst hk; exact blk_ne b5 cur (by decide)), (h.ctxs.keepT ap5 apw (fun k hk cur => own_ne h.list.own hk cur (by decide))).keepT ag (apw.trans' ag (by simp; exact h.hLB)) (fun k hk cur => by simp at hk; subst hk; exact blk_ne b5 cur (by decide)), apw.trans' ag (by simp; exact h.hLB)⟩, hs5, ?_⟩
  exact (KeepT.of ap5 (fun k hk cur => ⟨own_ne h.list.own hk cur (by decide), own_ne h.list.own hk cur (by decide)⟩)).trans (KeepT.of ag (fun k hk cur => by simp at hk; subst hk; exact ⟨blk_ne b5 cur (by decide), blk_ne b5 cur (by decide)⟩))
end Go.Proofs.YtokaeiahhmaokaaGreatDoor.ds
namespace Go.Proofs.YtokaeiahhmaokaaGreatDoor.ds
open Go.ChangeShapes Go.WideShapes Go.ChangeAt Go.RowKit Go.Sort
set_option linter.unusedVariables false
set_option linter.unusedSimpArgs false
/-- a list that is being lent -/
structure LI (w0 w : World) (LB : Nat) (s vv xx : Sl) (fs : List E) (vs xs : List Sl) (rs : List Wr) (i : Nat) : Prop where
  lr : LR w0 w LB s vv xx (flatE fs) (vs.map Sl.v) (xs.map Sl.v)
  fl : fs.length = i
  sn : s.n = i
  vl : vs.length = i
  vvn : vv.n = i
  xl : xs.length = i
  xxn : xx.n = i
  one : ∀ j, j < i → One w (gE fs j) (gS vs j) (gS xs j) (gR rs j)
  newv : ∀ j, j < i → ∀ k, (gS vs j).v.ownBlock = some k → w0.heap.size ≤ k
  newx : ∀ j, j < i → ∀ k, (gS xs j).v.ownBlock = some k → w0.heap.size ≤ k
  incv : ∀ j m, j < m → m < i → ∀ k q, (gS vs j).v.ownBlock = some k → (gS vs m).v.ownBlock = some q → k < q
  incx : ∀ j m, j < m → m < i → ∀ k q, (gS xs j).v.ownBlock = some k → (gS xs m).v.ownBlock = some q → k < q
theorem LI.step {w0 w W : World} {LB : Nat} {s vv xx s' vv' xx' : Sl} {fs : List E} {vs xs : List Sl} {rs : List Wr} {i : Nat} (h : LI w0 w LB s vv xx fs vs xs rs i) (e : E) (v x : Sl)
    (lr : LR w0 W LB s' vv' xx' (flatE (fs ++ [e])) ((vs ++ [v]).map Sl.v) ((xs ++ [x]).map Sl.v)) (kt : KeepT w W) (o : One W e v x (gR rs i)) (nv : ∀ k, v.v.ownBlock = some k → w.heap.size ≤ k) (nx : ∀ k, x.v.ownBlock = some k → w.heap.size ≤ k) (h1 : s'.n = i + 1) (h2 : vv'.n = i + 1) (h3 : xx'.n = i + 1) :
    LI w0 W LB s' vv' xx' (fs ++ [e]) (vs ++ [v]) (xs ++ [x]) rs (i + 1) := by
  have ef : gE (fs ++ [e]) i = e := by have := gE_at fs e; rwa [h.fl] at this
  have ev : gS (vs ++ [v]) i = v := by have := gS_at vs v; rwa [h.vl] at this
  have ex : gS (xs ++ [x]) i = x := by have := gS_at xs x; rwa [h.xl] at this
  have lf : ∀ j, j < i → gE (fs ++ [e]) j = gE fs j := fun j hj => gE_left _ _ _ (by rw [h.fl]; exact hj)
  have lv : ∀ j, j < i → gS (vs ++ [v]) j = gS vs j := fun j hj => gS_left _ _ _ (by rw [h.vl]; exact hj)
  have lx : ∀ j, j < i → gS (xs ++ [x]) j = gS xs j := fun j hj => gS_left _ _ _ (by rw [h.xl]; exact hj)
  have hs := h.lr.ap.size
  refine ⟨lr, by simp [h.fl], h1, by simp [h.vl], h2, by simp [h.xl], h3, fun j hj => ?_, fun j hj k hk => ?_, fun j hj k hk => ?_, fun j m hjm hm k q hk hq => ?_, fun j m hjm hm k q hk hq => ?_⟩
  · by_cases e1 : j = i
    · subst e1; rw [ef, ev, ex]; exact o
    · rw [lf j (by omega), lv j (by omega), lx j (by omega)]; exact (h.one j (by omega)).keptK kt
  · by_cases e1 : j = i
    · subst e1; rw [ev] at hk; exact Nat.le_trans hs (nv k hk)
    · rw [lv j (by omega)] at hk; exact h.newv j (by omega) k hk
  · by_cases e1 : j = i
    · subst e1; rw [ex] at hk; exact Nat.le_trans hs (nx k hk)
    · rw [lx j (by omega)] at hk; exact h.newx j (by omega) k hk
  · rw [lv j (by omega)] at hk
    by_cases e1 : m = i
    · subst e1; rw [ev] at hq
      have a := nv q hq
      have b := ((h.one j hjm).vo.lt k hk).2
      omega
    · rw [lv m (by omega)] at hq; exact h.incv j m hjm (by omega) k q hk hq
  · rw [lx j (by omega)] at hk
    by_cases e1 : m = i
    · subst e1; rw [ex] at hq
      have a := nx q hq
      have b := ((h.one j hjm).xo.lt k hk).2
      omega
    · rw [lx m (by omega)] at hq; exact h.incx j m hjm (by omega) k q hk hq
theorem buildX (W : World) : Sem.run Tryz.prog (Instr.buildSlice 26 2 #[(0, .agg #[.int .i64 77, .int .i64 0, .int .u64 0]), (1, .agg #[.int .i64 78, .int .i64 0, .int .u64 0])]) W = .ok (.slice (some ⟨W.heap.size, 0, none⟩) 2 2) (W.alloc (.cells #[.int .i64 77, .int .i64 0, .int .u64 0, .int .i64 78, .int .i64 0, .int .u64 0] 47)) := by
  obtain ⟨ie, hi, hz0, hz1, hz2⟩ := info_parts info52
  refine run_buildSlice W 26 47 2 _ _ ie _ Tryz.underlying26 hi hz0 (by rw [hz1]; decide) (by rw [hz1]; decide) ?_
  rw [hz1]
  first | rfl | (simp [Instr.fill, Array.range, Value.cells, Array.ofFn]; done) | kernel_rfl
/-- the write as it is lent -/
def lentE (e : E) (v x : Sl) : E := ⟨e.n, e.c, e.k, e.d, ⟨v.p, e.v.n, v.c⟩, ⟨x.p, e.x.n, x.c⟩⟩
end Go.Proofs.YtokaeiahhmaokaaGreatDoor.ds
namespace Go.Proofs.YtokaeiahhmaokaaGreatDoor.ds
open Go.ChangeShapes Go.WideShapes Go.ChangeAt Go.RowKit Go.Sort
set_option linter.unusedVariables false
set_option linter.unusedSimpArgs false
theorem wpList_copy2 {w : World} {ops : Array Oper} {rest : List Oper} {o : Oper} {a : Act} {Q : Exit → Act → World → Prop} (hgd : o.guard = none) (s x : Operand) (t t' : TypeId)
    (ho : o.op = .call { callee := .builtin .copy, args := #[s, x], argTypes := #[t, t'] }) (v u : Value) (hs : a.eval s = v) (hx : a.eval x = u) (v' : Value) (w' : World)
    (hrun : (Builtin.copy_ #[t, t'] o.type #[v, u]).run Tryz.prog w = .ok v' w') (hK : wpList Tryz.prog ops Q rest (a.put o.dst v') w') : wpList Tryz.prog ops Q (o :: rest) a w := by
  refine wpList_plain hgd fun K hK' => ?_
  unfold Oper.wp
  simp [execOp, ho, resolve, invoke, builtin, hs, hx, hrun, Result.andThen]
  exact hK' _ _ hK
theorem step_copy2 {w : World} {ops : Array Oper} {o : Oper} {a : Act} {K : Act → World → Prop} {Q : Exit → Act → World → Prop} {E : Prop} (hgd : o.guard = none) (s x : Operand) (t t' : TypeId)
    (ho : o.op = .call { callee := .builtin .copy, args := #[s, x], argTypes := #[t, t'] }) (v u : Value) (hs : a.eval s = v) (hx : a.eval x = u) (v' : Value) (w' : World)
    (hrun : (Builtin.copy_ #[t, t'] o.type #[v, u]).run Tryz.prog w = .ok v' w') (hK : K (a.put o.dst v') w') : if Region.wanted o (yielded ops a.tmps) = true then Oper.wp Tryz.prog o a w K Q else E := by
  have hw : Region.wanted o (yielded ops a.tmps) = true := by simp [Region.wanted, hgd]
  rw [if_pos hw]
  unfold Oper.wp
  simp [execOp, ho, resolve, invoke, builtin, hs, hx, hrun, Result.andThen]
  exact hK
theorem wpList_app2 {w : World} {ops : Array Oper} {rest : List Oper} {o : Oper} {a : Act} {Q : Exit → Act → World → Prop} (hgd : o.guard = none) (s x : Operand) (t t' : TypeId)
    (ho : o.op = .call { callee := .builtin .append, args := #[s, x], argTypes := #[t, t'] }) (v u : Value) (hs : a.eval s = v) (hx : a.eval x = u) (v' : Value) (w' : World)
    (hrun : (Builtin.append_ #[t, t'] o.type #[v, u]).run Tryz.prog w = .ok v' w') (hK : wpList Tryz.prog ops Q rest (a.put o.dst v') w') : wpList Tryz.prog ops Q (o :: rest) a w := by
  refine wpList_plain hgd fun K hK' => ?_
  unfold Oper.wp
  simp [execOp, ho, resolve, invoke, builtin, hs, hx, hrun, Result.andThen]
  exact hK' _ _ hK
theorem step_app2 {w : World} {ops : Array Oper} {o : Oper} {a : Act} {K : Act → World → Prop} {Q : Exit → Act → World → Prop} {E : Prop} (hgd : o.guard = none) (s x : Operand) (t t' : TypeId)
    (ho : o.op = .call { callee := .builtin .append, args := #[s, x], argTypes := #[t, t'] }) (v u : Value) (hs : a.eval s = v) (hx : a.eval x = u) (v' : Value) (w' : World)
    (hrun : (Builtin.append_ #[t, t'] o.type #[v, u]).run Tryz.prog w = .ok v' w') (hK : K (a.put o.dst v') w') : if Region.wanted o (yielded ops a.tmps) = true then Oper.wp Tryz.prog o a w K Q else E := by
  have hw : Region.wanted o (yielded ops a.tmps) = true := by simp [Region.wanted, hgd]
  rw [if_pos hw]
  unfold Oper.wp
  simp [execOp, ho, resolve, invoke, builtin, hs, hx, hrun, Result.andThen]
  exact hK
theorem sz28 (w : World) : (Go.sizeOf 28).run Tryz.prog w = .ok 6 w := by
  obtain ⟨i0, hi, hz0, hz1, hz2⟩ := info_parts infoW
  simp [sizeOf, typeInfo, hi, hz1]
theorem drop_flat (l : List E) (k : Nat) : (flatE l).drop (k * 6) = flatE (l.drop k) := by
  have h : flatE l = flatE (l.take k) ++ flatE (l.drop k) := by rw [← flatE_append, List.take_append_drop]
  by_cases hk : k ≤ l.length
  · rw [h, List.drop_append_of_le_length (by rw [flatE_length]; simp; omega), List.drop_eq_nil_of_le (by rw [flatE_length]; simp; omega)]; simp
  · rw [List.drop_eq_nil_of_le (by rw [flatE_length]; omega), List.drop_eq_nil_of_le (by omega : l.length ≤ k)]; rfl
set_option maxHeartbeats 4000000 in
set_option maxRecDepth 100000 in
theorem ins_shift (w W : World) (s : Sl) (l : List E) (u : E) (k B : Nat) (h : OwnE w W s l) (hn : s.n ≤ 1500000) (hk : k < s.n) (hroom : s.n + 1 ≤ s.c) (hB : Cap W B u) : Calls Tryz.prog 85 #[s.v, .int .i64 (k : Int), .slice (some ⟨B, 0, none⟩) 1 1] W fun r W' => ∃ s', r = .returned (Sl.v s') ∧ OwnE w W' s' (l.take k ++ [u] ++ l.drop k) := by
  obtain ⟨i0, hi, hz0, hz1, hz2⟩ := info_parts infoW
  have hsz : (Tryz.prog.info? 28).map (·.size) = some 6 := size28
  obtain ⟨p, n, c⟩ := s
  simp only at hn hk hroom
  have hcap := h.cap
  simp only at hcap
  obtain ⟨hxl, ⟨hv, hz⟩ | ⟨G, cap, cur, hv, hbb, hr, hle, hmx, hcs, htk⟩⟩ := h.nw.own
  · unfold Sl.v at hv; simp at hv; omega
  unfold Sl.v at hv
  simp at hv
  obtain ⟨rfl, rfl⟩ := hv
  have hlen : l.length = n := h.len
  have hGB : B ≠ G := fun e => by
    subst e
    have := hB
    unfold Cap at this
    rw [hr] at this
    simp at this
    rw [this] at hcs
    simp at hcs
    omega
  have hov : ∀ off lb cb, (callFunc 98 #[.slice (some ⟨B, 0, none⟩) 1 1, .slice (some ⟨G, off, none⟩) lb cb]).run Tryz.prog W = .ok (.value (.bool false)) W := fun off lb cb => by
    rw [run_callFunc_extern Tryz.func98 (by kernel_rfl) (by kernel_rfl) (by kernel_rfl) (e := Extern.SlicesOverlaps.overlaps #[35, 35] #[4]) (by kernel_rfl),
      Lib.run_overlaps_apart W 35 4 28 Tryz.underlying35 6 sz28 ⟨B, 0, none⟩ ⟨G, off, none⟩ 1 1 lb cb hGB 28 28 6 cur.size (by unfold World.shape?; rw [hB]; rfl) (by unfold World.shape?; rw [hr]) (by rw [hcs]; omega) (frozen_of_row _ _ _ _ _ hB) (frozen_of_row _ _ _ _ _ hB)]
    rfl
  obtain ⟨L, hL⟩ : ∃ L, L = cur.toList := ⟨_, rfl⟩
  have hcur : cur = L.toArray := by rw [hL]
  have hLl : L.length = c * 6 := by rw [hL]; simpa using hcs
  have hLt : L.take (n * 6) = flatE l := by rw [hL]; exact htk
  have hfl := flatE_length l
  have hD : (flatE (l.drop k)).length = (n - k) * 6 := by rw [flatE_length]; simp [hlen]
  have hA : (flatE (l.take k)).length = k * 6 := by rw [flatE_length]; simp [hlen]; omega
  have hsplit : L = flatE (l.take k) ++ flatE (l.drop k) ++ L.drop (n * 6) := by rw [← flatE_append, List.take_append_drop, ← hLt, List.take_append_drop]
  rw [hcur] at hr
  have hcell : ∀ j v, (flatE (l.drop k))[j]? = some v → W.drew.cell? ((⟨G, k * 6, none⟩ : Addr).add j) = some v := fun j v hj => by
    rw [← drop_flat, List.getElem?_drop] at hj
    rw [Addr.add_lit]
    exact (h.nw.own.cellAt (k * 6 + j) (by
      rw [hlen] at hfl
      by_cases hc : k * 6 + j < n * 6
      · omega
      · rw [List.getElem?_eq_none (by omega)] at hj; cases hj)).trans hj
  have hcp1 : ∀ ty dc sc, (Builtin.copy_ #[35, 35] ty #[.slice (some ⟨G, (k + 1) * 6, none⟩) (n + 1 - (k + 1)) dc, .slice (some ⟨G, k * 6, none⟩) (n + 1 - k) sc]).run Tryz.prog W.drew = .ok (goInt ((n - k : Nat) : Int)) (W.drew.setRow G (splice L ((k + 1) * 6) (flatE (l.drop k))).toArray) := fun ty dc sc =>
    run_copy_rowN W.drew 35 35 ty 28 6 G ((k + 1) * 6) (n + 1 - (k + 1)) dc ⟨G, k * 6, none⟩ (n + 1 - k) sc (n - k) L 28 (flatE (l.drop k)) Tryz.underlying35 hsz hr (by simp only [Nat.min_def]; split <;> omega) hD hcell (by rw [hD, hLl]; omega) (oneE _)
  obtain ⟨W1, hW1⟩ : ∃ W1, W1 = W.drew.setRow G (splice L ((k + 1) * 6) (flatE (l.drop k))).toArray := ⟨_, rfl⟩
  rw [← hW1] at hcp1
  have a1 : Apart [G] W W1 := by rw [hW1]; exact (Apart.refl [G] W).drew.trans (apart_setRow _ _ _)
  have hr1 : W1.heap[G]? = some (.cells (splice L ((k + 1) * 6) (flatE (l.drop k))).toArray 28 (0, 0)) := by rw [hW1]; exact setRow_heap W.drew G _ _ 28 _ hr
  have hB1 : W1.heap[B]? = _ := (a1.block B (lt_of_heap hB) (by simpa using hGB)).trans hB
  have hcp2 : ∀ ty dc, (Builtin.copy_ #[35, 35] ty #[.slice (some ⟨G, k * 6, none⟩) (n + 1 - k) dc, .slice (some ⟨B, 0, none⟩) 1 1]).run Tryz.prog W1 = .ok (goInt 1) (W1.setRow G (splice (splice L ((k + 1) * 6) (flatE (l.drop k))) (k * 6) (E.cs u)).toArray) := fun ty dc =>
    run_copy_rowN W1 35 35 ty 28 6 G (k * 6) (n + 1 - k) dc ⟨B, 0, none⟩ 1 1 1 _ 28 (E.cs u) Tryz.underlying35 hsz hr1 (by simp only [Nat.min_def]; split <;> omega) rfl (fun j v hj => by rw [Addr.add_lit, Nat.zero_add, cell_of_row _ _ _ _ _ _ hB1]; simpa [E.cs] using hj) (by rw [length_splice _ _ _ (by rw [hD, hLl]; omega), hLl]; simp [E.cs]; omega) (fun v hv => oneE [u] v (by simpa [flatE] using hv))
  have hfin : OwnE w (W1.setRow G (splice (splice L ((k + 1) * 6) (flatE (l.drop k))) (k * 6) (E.cs u)).toArray) ⟨some ⟨G, 0, none⟩, n + 1, c⟩ (l.take k ++ [u] ++ l.drop k) := by
    have hGw : w.heap.size ≤ G := h.nw.new G rfl
    refine ⟨⟨⟨by rw [flatE_length]; simp [hlen]; omega, .inr ⟨G, c, _, rfl, Nat.zero_le _, setRow_heap W1 G _ _ 28 _ hr1, hroom, hmx, ?_, ?_⟩⟩, h.nw.new, h.nw.ap.trans' (a1.trans (apart_setRow _ _ _)) (by simp; exact hGw)⟩, by simp [hlen]; omega⟩
    · simp only [List.size_toArray]
      rw [length_splice _ _ _ (by rw [length_splice _ _ _ (by rw [hD, hLl]; omega), hLl]; simp [E.cs]; omega), length_splice _ _ _ (by rw [hD, hLl]; omega), hLl]
    · have := splice_ins (flatE (l.take k)) (flatE (l.drop k)) (E.cs u) (L.drop (n * 6)) (by simp [E.cs, hLl]; omega)
      rw [← hsplit, hA, hD] at this
      rw [flatE_append, flatE_append]
      rw [show (E.cs u).length = 6 from rfl, show k * 6 + 6 = (k + 1) * 6 from by omega, show (k + 1) * 6 + (n - k) * 6 = (n + 1) * 6 from by omega] at this
      simpa [flatE] using this
  have HF := hid hfin
  have hb1 : ¬ ((k : Int) = (n : Int)) := by omega
  have hc2 := hcap.2.1
  clear hW1 hfin hB1 hr1 a1 hcell hsplit hA hD hfl hLt hLl hcur hL htk hcs hmx hle hr hGB hcap hxl hbb hB h hlen
  unfold Sl.v
  go_enter Tryz.func85, Tryz.ntmps85
  go_wp2_with (simp only [hov])
  have hw1 : IntKind.i64.wrap ((k : Int) + 1) = (k : Int) + 1 := by rw [IntKind.wrap_i64]; omega
  have hb3 : (0 : Int) ≤ (k : Int) + 1 := by omega
  have hb4 : (k : Int) + 1 ≤ (n : Int) + 1 := by omega
  have htn : ((k : Int) + 1).toNat = k + 1 := by omega
  have hb5 : ¬ (c = k + 1) := by omega
  have hb6 : ¬ (c = k) := by omega
  have hb7 : (k : Int) ≤ (n : Int) + 1 := by omega
  have hb8 : k ≤ n := by omega
  clear hov hc2
  refine wp_region_held_drew (S := fun _ => True) (by kernel_rfl) trivial (fun hHeld => ?_)
  refine tk 0 69 (.slice (some ⟨G, 0, none⟩) (n + 1) c) rfl ?_ ?_
  · intro W hSW; go_simp
  simp only [Act.put, List.setIfInBounds_toArray, List.set_cons_zero, List.set_cons_succ]
  refine tk 1 70 (.int .i64 (k : Int)) rfl ?_ ?_
  · intro W hSW; go_simp
  simp only [Act.put, List.setIfInBounds_toArray, List.set_cons_zero, List.set_cons_succ]
  refine tk 2 71 (.int .i64 1) rfl ?_ ?_
  · intro W hSW; go_simp
  simp only [Act.put, List.setIfInBounds_toArray, List.set_cons_zero, List.set_cons_succ]
  refine tk 3 72 (.int .i64 ((k : Int) + 1)) rfl ?_ ?_
  · intro W hSW; go_simp
  simp only [Act.put, List.setIfInBounds_toArray, List.set_cons_zero, List.set_cons_succ]
  refine tk 4 73 (.slice (some ⟨G, (k + 1) * 6, none⟩) (n + 1 - (k + 1)) (c - (k + 1))) rfl ?_ ?_
  · intro W hSW; go_simp
  simp only [Act.put, List.setIfInBounds_toArray, List.set_cons_zero, List.set_cons_succ]
  refine tk 5 74 (.slice (some ⟨G, 0, none⟩) (n + 1) c) rfl ?_ ?_
  · intro W hSW; go_simp
  simp only [Act.put, List.setIfInBounds_toArray, List.set_cons_zero, List.set_cons_succ]
  refine tk 6 75 (.int .i64 (k : Int)) rfl ?_ ?_
  · intro W hSW; go_simp
  simp only [Act.put, List.setIfInBounds_toArray, List.set_cons_zero, List.set_cons_succ]
  refine tk 7 76 (.slice (some ⟨G, k * 6, none⟩) (n + 1 - k) (c - k)) rfl ?_ ?_
  · intro W hSW; go_simp
  simp only [Act.put, List.setIfInBounds_toArray, List.set_cons_zero, List.set_cons_succ]
  refine wpAnyH_ready (rs := [8]) (by kernel_rfl) (by simp) ?_
  refine AllReadyH.cons rfl (fun KK hKK => ?_) AllReadyH.nil
  refine step_copy2 (o := ⟨some 77, _, _, _, _, _⟩) rfl (.tmp 73) (.tmp 76) 35 35 rfl _ _ rfl rfl _ _ (hcp1 _ _ _) ?_
  refine hKK.out _ _ (by first | assumption | trivial) (fun hHeld => ?_)
  clear hKK KK
  refine wpAnyH_done (by kernel_rfl) ?_ _
  simp only [Act.put, List.setIfInBounds_toArray, List.set_cons_zero, List.set_cons_succ]
  go_wp2_with (first | (at_builtin; refine wpList_copy2 rfl (.tmp 80) (.tmp 81) 35 35 rfl _ _ rfl rfl _ _ (hcp2 _ _) ?_))
  go_wp2
  go_ret
  exact ⟨⟨some ⟨G, 0, none⟩, n + 1, c⟩, rfl, HF.out⟩
end Go.Proofs.YtokaeiahhmaokaaGreatDoor.ds
