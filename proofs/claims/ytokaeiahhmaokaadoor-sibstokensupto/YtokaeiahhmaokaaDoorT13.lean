import Derived.Test.YtokaeiahhmaokaaDoorT12
import Derived.Test.YtokaeiahhmaokaaDoorT11
import Derived.Deep.OwnRows
import Derived.Deep.CutRange
namespace Go.Proofs.YtokaeiahhmaokaaDoor.ds
open Go.ChangeShapes Go.WideShapes Go.ChangeAt Go.RowKit Go.Sort
set_option linter.unusedVariables false
set_option linter.unusedSimpArgs false

/-- one more in the list -/
theorem LR.addM {w0 w : World} {LB : Nat} {s vv xx : Sl} {us vs xs : List Value} (h : LR w0 w LB s vv xx us vs xs)  (hn : s.n ≤ 2000000) :
    ∃ s' w', (Builtin.append_ #[39, 39] 39 #[s.v, .slice (some ⟨w.heap.size, 0, none⟩) 2 2]).run Tryd.prog (w.alloc (.cells (E.cs markE ++ E.cs markE).toArray 28)) = .ok (Sl.v s') w' ∧ w'.heap[LB]? = some (.cells #[s.v, vv.v, xx.v] 112 (0, 0)) ∧ Apart [] w0 w' ∧
      LR w0 (w'.setCell ⟨LB, 0, none⟩ s'.v) LB s' vv xx (us ++ (E.cs markE ++ E.cs markE)) vs xs ∧ s'.n = s.n + 2 ∧ (∃ k, s'.p = some ⟨k, 0, none⟩) ∧ KeepT w (w'.setCell ⟨LB, 0, none⟩ s'.v) := by
  obtain ⟨i0, hi, hz0, hz1, hz2⟩ := info_parts infoW
  obtain ⟨s', w', hrun, n5, hs5, ap5, k5, hk5, hc5, hkk⟩ := run_appM 39 39 28 i0 _ 6 88 Tryd.underlying39 hi hz0 hz1 hz2 rfl (by decide) h.list 2 (E.cs markE ++ E.cs markE) (by decide) rfl (fun v hv => oneE [markE, markE] v (by simpa [flatE] using hv)) (by unfold maxLen; omega) (by omega)
  have apw : Apart [] w0 w' := n5.ap
  have b5 : w'.heap[LB]? = some (.cells #[s.v, vv.v, xx.v] 112 (0, 0)) := (ap5.block LB (lt_of_heap h.blk) (fun m => own_ne h.list.own m _ (by decide) h.blk)).trans h.blk
  have ag : Apart [LB] w' (w'.setCell ⟨LB, 0, none⟩ s'.v) := (Apart.refl _ _).setCell (.inl (by simp)) _
  have b6 : (w'.setCell ⟨LB, 0, none⟩ s'.v).heap[LB]? = some (.cells #[s'.v, vv.v, xx.v] 112 (0, 0)) := by
    have := heap_setCell_same w' LB 0 _ 112 s'.v b5
    simpa using this
  refine ⟨s', w', hrun, b5, apw, ⟨b6, h.hLB, n5.keepT ag (apw.trans' ag (by simp; exact h.hLB)) (fun k hk cur => by simp at hk; subst hk; exact blk_ne b5 cur (by decide)), (h.vals.keepT ap5 apw (fun k hk cur => own_ne h.list.own hk cur (by decide))).keepT ag (apw.trans' ag (by simp; exact h.hLB)) (fun k hk cur => by simp at hk; subst hk; exact blk_ne b5 cur (by decide)), (h.ctxs.keepT ap5 apw (fun k hk cur => own_ne h.list.own hk cur (by decide))).keepT ag (apw.trans' ag (by simp; exact h.hLB)) (fun k hk cur => by simp at hk; subst hk; exact blk_ne b5 cur (by decide)), apw.trans' ag (by simp; exact h.hLB)⟩, hs5, ⟨k5, hk5⟩, ?_⟩
  exact (KeepT.of ap5 (fun k hk cur => ⟨own_ne h.list.own hk cur (by decide), own_ne h.list.own hk cur (by decide)⟩)).trans (KeepT.of ag (fun k hk cur => by simp at hk; subst hk; exact ⟨blk_ne b5 cur (by decide), blk_ne b5 cur (by decide)⟩))

theorem buildM (W : World) : Sem.run Tryd.prog (Instr.buildSlice 39 2 #[(0, markE.agg), (1, markE.agg)]) W = .ok (.slice (some ⟨W.heap.size, 0, none⟩) 2 2) (W.alloc (.cells (E.cs markE ++ E.cs markE).toArray 28)) := by
  obtain ⟨ie, hi, hz0, hz1, hz2⟩ := info_parts infoW
  refine run_buildSlice W 39 28 2 _ _ ie _ Tryd.underlying39 hi hz0 (by rw [hz1]; decide) (by rw [hz1]; decide) ?_
  rw [hz1]
  first | rfl | (simp [Instr.fill, Array.range, Value.cells, Array.ofFn, E.agg]; done) | kernel_rfl
/-- a list that is lent: its memory lies from lo on and ahead of hi -/
structure Lt (lo hi : Nat) (w : World) (LB G c : Nat) (vv xx : Sl) (fs : List E) (vs xs : List Sl) (rs : List Wr) (N : Nat) : Prop where
  blk : w.heap[LB]? = some (.cells #[.slice (some ⟨G, 0, none⟩) (N + 2) c, vv.v, xx.v] 112 (0, 0))
  list : w.ownsRow 0 28 6 (.slice (some ⟨G, 0, none⟩) (N + 2) c) (N + 2) (flatE (fs ++ [markE, markE]))
  vals : w.ownsRow 0 25 1 vv.v vv.n (vs.map Sl.v)
  ctxs : w.ownsRow 0 26 1 xx.v xx.n (xs.map Sl.v)
  fl : fs.length = N
  vl : vs.length = N
  vvn : vv.n = N
  xl : xs.length = N
  xxn : xx.n = N
  one : ∀ j, j < N → One w (gE fs j) (gS vs j) (gS xs j) (gR rs j)
  incv : ∀ j m, j < m → m < N → ∀ k q, (gS vs j).v.ownBlock = some k → (gS vs m).v.ownBlock = some q → k < q
  incx : ∀ j m, j < m → m < N → ∀ k q, (gS xs j).v.ownBlock = some k → (gS xs m).v.ownBlock = some q → k < q
  rLB : lo ≤ LB ∧ LB < hi
  rG : lo ≤ G ∧ G < hi
  rvv : ∀ k, vv.v.ownBlock = some k → lo ≤ k ∧ k < hi
  rxx : ∀ k, xx.v.ownBlock = some k → lo ≤ k ∧ k < hi
  rv : ∀ j, j < N → ∀ k, (gS vs j).v.ownBlock = some k → lo ≤ k ∧ k < hi
  rx : ∀ j, j < N → ∀ k, (gS xs j).v.ownBlock = some k → lo ≤ k ∧ k < hi
  sz : hi ≤ w.heap.size
theorem Lt.make {w0 wr W : World} {LB G : Nat} {s s' vv xx : Sl} {fs : List E} {vs xs : List Sl} {rs : List Wr} {N : Nat} (h : LI w0 wr LB s vv xx fs vs xs rs N) (lr : LR w0 W LB s' vv xx (flatE (fs ++ [markE, markE])) (vs.map Sl.v) (xs.map Sl.v)) (kt : KeepT wr W) (hp : s'.p = some ⟨G, 0, none⟩) (hn : s'.n = N + 2) : Lt w0.heap.size W.heap.size W LB G s'.c vv xx fs vs xs rs N := by
  obtain ⟨p, n, c⟩ := s'
  simp only at hp hn
  subst hp hn
  have b := lr.blk
  have l := lr.list
  have one : ∀ j, j < N → One W (gE fs j) (gS vs j) (gS xs j) (gR rs j) := fun j hj => (h.one j hj).keptK kt
  refine ⟨b, l.own, lr.vals.own, lr.ctxs.own, h.fl, h.vl, h.vvn, h.xl, h.xxn, one, h.incv, h.incx, ⟨lr.hLB, lt_of_heap b⟩, ⟨l.new G rfl, (l.own.lt G rfl).2⟩, fun k hk => ⟨lr.vals.new k hk, (lr.vals.own.lt k hk).2⟩, fun k hk => ⟨lr.ctxs.new k hk, (lr.ctxs.own.lt k hk).2⟩, fun j hj k hk => ⟨h.newv j hj k hk, ((one j hj).vo.lt k hk).2⟩, fun j hj k hk => ⟨h.newx j hj k hk, ((one j hj).xo.lt k hk).2⟩, Nat.le_refl _⟩
end Go.Proofs.YtokaeiahhmaokaaDoor.ds
namespace Go.Proofs.YtokaeiahhmaokaaDoor.ds
open Go.ChangeShapes Go.WideShapes Go.ChangeAt Go.RowKit Go.Sort
set_option linter.unusedVariables false
set_option linter.unusedSimpArgs false
/-- blocks ahead of lo and from hi on are as they were -/
structure Fr (lo hi : Nat) (w w' : World) : Prop where
  os : w'.os = w.os
  tape : w'.tape = w.tape
  output : w'.output = w.output
  size : w.heap.size ≤ w'.heap.size
  block : ∀ k, k < w.heap.size → (k < lo ∨ hi ≤ k) → w'.heap[k]? = w.heap[k]?
theorem Fr.refl (lo hi : Nat) (w : World) : Fr lo hi w w := ⟨rfl, rfl, rfl, Nat.le_refl _, fun _ _ _ => rfl⟩
theorem Fr.trans {lo hi : Nat} {a b c : World} (h : Fr lo hi a b) (k : Fr lo hi b c) : Fr lo hi a c :=
  ⟨k.os.trans h.os, k.tape.trans h.tape, k.output.trans h.output, Nat.le_trans h.size k.size, fun i hi hx => (k.block i (Nat.lt_of_lt_of_le hi h.size) hx).trans (h.block i hi hx)⟩
theorem Apart.fr {X : List Nat} {a b : World} (h : Apart X a b) {lo hi : Nat} (hX : ∀ x ∈ X, lo ≤ x ∧ x < hi) : Fr lo hi a b :=
  ⟨h.os, h.tape, h.output, h.size, fun k hk hx => h.block k hk (fun m => by have := hX k m; omega)⟩
theorem Apart.fr0 {a b : World} (h : Apart [] a b) (lo hi : Nat) : Fr lo hi a b := h.fr (by simp)
theorem own_fr {w w' : World} {base : Nat} {e : TypeId} {size : Nat} {v : Value} {n : Nat} {xs : List Value} {lo hi : Nat} (h : w.ownsRow base e size v n xs) (a : Fr lo hi w w') (hx : ∀ k, v.ownBlock = some k → k < lo ∨ hi ≤ k) : w'.ownsRow base e size v n xs := by
  obtain ⟨hl, ⟨hv, hz⟩ | ⟨g, cap, cur, rfl, hb, hr, hrest⟩⟩ := h
  · exact ⟨hl, .inl ⟨hv, hz⟩⟩
  · exact ⟨hl, .inr ⟨g, cap, cur, rfl, hb, (a.block g (lt_of_heap hr) (hx g rfl)).trans hr, hrest⟩⟩
theorem One.fr {w w' : World} {e : E} {v x : Sl} {r : Wr} {lo hi : Nat} (h : One w e v x r) (a : Fr lo hi w w') (hv : ∀ k, v.v.ownBlock = some k → k < lo ∨ hi ≤ k) (hx : ∀ k, x.v.ownBlock = some k → k < lo ∨ hi ≤ k) : One w' e v x r :=
  { h with vo := own_fr h.vo a hv, xo := own_fr h.xo a hx }
/-- what is lent stays where other memory was written -/
theorem Lt.fr {lo hi lo' hi' : Nat} {w w' : World} {LB G c : Nat} {vv xx : Sl} {fs : List E} {vs xs : List Sl} {rs : List Wr} {N : Nat} (h : Lt lo hi w LB G c vv xx fs vs xs rs N) (a : Fr lo' hi' w w') (ho : hi ≤ lo' ∨ hi' ≤ lo) : Lt lo hi w' LB G c vv xx fs vs xs rs N :=
  { h with
    blk := (a.block LB (lt_of_heap h.blk) (by have := h.rLB; omega)).trans h.blk
    list := own_fr h.list a (fun k hk => by simp [Value.ownBlock] at hk; subst hk; have := h.rG; omega)
    vals := own_fr h.vals a (fun k hk => by have := h.rvv k hk; omega)
    ctxs := own_fr h.ctxs a (fun k hk => by have := h.rxx k hk; omega)
    one := fun j hj => (h.one j hj).fr a (fun k hk => by have := h.rv j hj k hk; omega) (fun k hk => by have := h.rx j hj k hk; omega)
    sz := Nat.le_trans h.sz a.size }
theorem Lt.kept0 {lo hi : Nat} {w w' : World} {LB G c : Nat} {vv xx : Sl} {fs : List E} {vs xs : List Sl} {rs : List Wr} {N : Nat} (h : Lt lo hi w LB G c vv xx fs vs xs rs N) (a : Apart [] w w') : Lt lo hi w' LB G c vv xx fs vs xs rs N := h.fr (a.fr0 hi hi) (.inl (Nat.le_refl _))
/-- the list that is handed in -/
theorem Lt.LE {lo hi : Nat} {w : World} {LB G c : Nat} {vv xx : Sl} {fs : List E} {vs xs : List Sl} {rs : List Wr} {N : Nat} (h : Lt lo hi w LB G c vv xx fs vs xs rs N) (hN : N ≤ 2000000) : LE w (some ⟨G, 0, none⟩) N fs := by
  refine ⟨?_, h.fl, hN⟩
  have := Rd.own (p := some ⟨G, 0, none⟩) (n := N + 2) (cap := c) h.list
  rw [flatE_append] at this
  exact this.pre
theorem Lt.cap {lo hi : Nat} {w : World} {LB G c : Nat} {vv xx : Sl} {fs : List E} {vs xs : List Sl} {rs : List Wr} {N : Nat} (h : Lt lo hi w LB G c vv xx fs vs xs rs N) : N + 2 ≤ c := by
  obtain ⟨_, ⟨hv, hz⟩ | ⟨g, cap, cur, hv, _, _, hle, _⟩⟩ := h.list
  · omega
  · simp at hv; omega
/-- half way through back: the first i are marks, their memory is written over -/
structure Bk (lo hi : Nat) (w0 w : World) (LB G c : Nat) (vv xx : Sl) (fs : List E) (vs xs : List Sl) (rs : List Wr) (N i : Nat) : Prop where
  blk : w.heap[LB]? = some (.cells #[.slice (some ⟨G, 0, none⟩) (N + 2) c, vv.v, xx.v] 112 (0, 0))
  list : w.ownsRow 0 28 6 (.slice (some ⟨G, 0, none⟩) (N + 2) c) (N + 2) (flatE (List.replicate i markE ++ (fs.drop i ++ [markE, markE])))
  vals : w.ownsRow 0 25 1 vv.v vv.n (vs.map Sl.v)
  ctxs : w.ownsRow 0 26 1 xx.v xx.n (xs.map Sl.v)
  one : ∀ j, i ≤ j → j < N → One w (gE fs j) (gS vs j) (gS xs j) (gR rs j)
  fr : Fr lo hi w0 w
theorem Bk.start {lo hi : Nat} {w : World} {LB G c : Nat} {vv xx : Sl} {fs : List E} {vs xs : List Sl} {rs : List Wr} {N : Nat} (h : Lt lo hi w LB G c vv xx fs vs xs rs N) {w' : World} (a : Apart [] w w') : Bk lo hi w w' LB G c vv xx fs vs xs rs N 0 := by
  have k := h.kept0 a
  exact ⟨k.blk, by simpa using k.list, k.vals, k.ctxs, fun j _ hj => k.one j hj, a.fr0 _ _⟩
theorem gmap (l : List Sl) (i : Nat) (h : i < l.length) : (l.map Sl.v)[i]? = some (gS l i).v := by
  unfold gS
  simp [List.getD_eq_getElem?_getD, h]
theorem flatE_setW (es : List E) (e : E) : ∀ (k : Nat), k < es.length → flatE (es.set k e) = ((((((flatE es).set (k * 6) (.int .i64 e.n)).set (k * 6 + 1) (.int .i64 e.c)).set (k * 6 + 2) (.string e.k)).set (k * 6 + 3) (.bool e.d)).set (k * 6 + 4) e.v.v).set (k * 6 + 5) e.x.v := by
  induction es with
  | nil => intro k hk; simp at hk
  | cons a l ih =>
    intro k hk
    match k with
    | 0 => simp [flatE, E.cs]
    | k + 1 =>
      have := ih k (by simpa using hk)
      rw [show (k + 1) * 6 = k * 6 + 6 from by omega]
      show E.cs a ++ flatE (l.set k e) = _
      rw [this]; rfl
end Go.Proofs.YtokaeiahhmaokaaDoor.ds
namespace Go.Proofs.YtokaeiahhmaokaaDoor.ds
open Go.ChangeShapes Go.WideShapes Go.ChangeAt Go.RowKit Go.Sort
set_option linter.unusedVariables false
set_option linter.unusedSimpArgs false
theorem set_marks (fs : List E) (i : Nat) (hi : i < fs.length) : (List.replicate i markE ++ (fs.drop i ++ [markE, markE])).set i markE = List.replicate (i + 1) markE ++ (fs.drop (i + 1) ++ [markE, markE]) := by
  rw [List.set_append_right _ _ (by simp), List.length_replicate, Nat.sub_self, List.drop_eq_getElem_cons hi, List.cons_append, List.set_cons_zero, List.replicate_succ']
  simp
def set6 (w : World) (g o : Nat) (e : E) : World := (((((w.setCell ⟨g, o, none⟩ (.int .i64 e.n)).setCell ⟨g, o + 1, none⟩ (.int .i64 e.c)).setCell ⟨g, o + 2, none⟩ (.string e.k)).setCell ⟨g, o + 3, none⟩ (.bool e.d)).setCell ⟨g, o + 4, none⟩ e.v.v).setCell ⟨g, o + 5, none⟩ e.x.v
theorem apart_set6 (w : World) (g o : Nat) (e : E) : Apart [g] w (set6 w g o e) := (((((((Apart.refl _ _).setCell (.inl (by simp)) _).setCell (.inl (by simp)) _).setCell (.inl (by simp)) _).setCell (.inl (by simp)) _).setCell (.inl (by simp)) _).setCell (.inl (by simp)) _)
theorem own_set6 {w : World} {G n c : Nat} {es : List E} (h : w.ownsRow 0 28 6 (.slice (some ⟨G, 0, none⟩) n c) n (flatE es)) (i : Nat) (hi : i < es.length) (e : E) : (set6 w G (i * 6) e).ownsRow 0 28 6 (.slice (some ⟨G, 0, none⟩) n c) n (flatE (es.set i e)) := by
  rw [flatE_setW es e i hi]
  exact ((((((h.stored (i * 6) _).1.stored (i * 6 + 1) _).1.stored (i * 6 + 2) _).1.stored (i * 6 + 3) _).1.stored (i * 6 + 4) _).1.stored (i * 6 + 5) _).1
theorem Bk.step {lo hi : Nat} {w0 w W W1 : World} {LB G c : Nat} {vv xx : Sl} {fs : List E} {vs xs : List Sl} {rs : List Wr} {N i : Nat} (h0 : Lt lo hi w0 LB G c vv xx fs vs xs rs N) (h : Bk lo hi w0 w LB G c vv xx fs vs xs rs N i) (hi' : i < N) (kv kx : Nat) (hkv : (gS vs i).v.ownBlock = some kv) (hkx : (gS xs i).v.ownBlock = some kx) (a : Apart [kv, kx] w W) (a1 : Apart [] W W1) :
    Bk lo hi w0 (set6 W1 G (i * 6) markE) LB G c vv xx fs vs xs rs N (i + 1) := by
  have o := h.one i (Nat.le_refl _) hi'
  obtain ⟨cv, tv⟩ := own_typ o.vo hkv
  obtain ⟨cx, tx⟩ := own_typ o.xo hkx
  obtain ⟨cG, tG⟩ := own_typ h.list (k := G) rfl
  have hne : ∀ k ∈ [kv, kx], ∀ (cur : Array Value) (t : TypeId), t ≠ 5 → t ≠ 80 → w.heap[k]? ≠ some (.cells cur t (0, 0)) := by
    intro k hk cur t h5 h38
    simp at hk
    rcases hk with rfl | rfl
    · exact blk_ne tv cur h5
    · exact blk_ne tx cur h38
  have aw : Apart [kv, kx] w W1 := a.trans (a1.mono (by simp))
  have bLB := (aw.block LB (lt_of_heap h.blk) (fun m => hne LB m _ 112 (by decide) (by decide) h.blk)).trans h.blk
  have bG := (aw.block G (lt_of_heap tG) (fun m => hne G m _ 28 (by decide) (by decide) tG)).trans tG
  have list1 := own_apart h.list aw (fun k hk m => by simp [Value.ownBlock] at hk; subst hk; exact hne _ m _ 28 (by decide) (by decide) tG)
  have vals1 := own_apart h.vals aw (fun k hk m => by obtain ⟨cu, tt⟩ := own_typ h.vals hk; exact hne _ m _ 25 (by decide) (by decide) tt)
  have ctxs1 := own_apart h.ctxs aw (fun k hk m => by obtain ⟨cu, tt⟩ := own_typ h.ctxs hk; exact hne _ m _ 26 (by decide) (by decide) tt)
  have aG := apart_set6 W1 G (i * 6) markE
  have hlen : i < (List.replicate i markE ++ (fs.drop i ++ [markE, markE])).length := by simp
  have one1 : ∀ j, i + 1 ≤ j → j < N → One W1 (gE fs j) (gS vs j) (gS xs j) (gR rs j) := fun j hj hjN => by
    have oj := h.one j (by omega) hjN
    refine oj.kept aw (fun k hk m => ?_) (fun k hk m => ?_)
    · simp at m
      rcases m with rfl | rfl
      · have := h0.incv i j (by omega) hjN _ _ hkv hk; omega
      · obtain ⟨cu, tt⟩ := own_typ oj.vo hk
        rw [tx] at tt; simp at tt
    · simp at m
      rcases m with rfl | rfl
      · obtain ⟨cu, tt⟩ := own_typ oj.xo hk
        rw [tv] at tt; simp at tt
      · have := h0.incx i j (by omega) hjN _ _ hkx hk; omega
  refine ⟨(aG.block LB (lt_of_heap bLB) (fun m => by simp at m; subst m; rw [bLB] at bG; simp at bG)).trans bLB, ?_, ?_, ?_, fun j hj hjN => ?_, ?_⟩
  · have := own_set6 list1 i hlen markE
    rwa [set_marks fs i (by rw [h0.fl]; exact hi')] at this
  · exact own_apart vals1 aG (fun k hk m => by simp at m; subst m; obtain ⟨cu, tt⟩ := own_typ vals1 hk; rw [bG] at tt; simp at tt)
  · exact own_apart ctxs1 aG (fun k hk m => by simp at m; subst m; obtain ⟨cu, tt⟩ := own_typ ctxs1 hk; rw [bG] at tt; simp at tt)
  · exact (one1 j hj hjN).keptT aG (fun k hk cur => by simp at hk; subst hk; exact ⟨blk_ne bG cur (by decide), blk_ne bG cur (by decide)⟩)
  · exact h.fr.trans ((aw.fr (by
      intro x hx
      simp at hx
      rcases hx with rfl | rfl
      · exact h0.rv i hi' _ hkv
      · exact h0.rx i hi' _ hkx)).trans (aG.fr (by simp; exact h0.rG)))
end Go.Proofs.YtokaeiahhmaokaaDoor.ds
namespace Go.Proofs.YtokaeiahhmaokaaDoor.ds
open Go.ChangeShapes Go.WideShapes Go.ChangeAt Go.RowKit Go.Sort
set_option linter.unusedVariables false
set_option linter.unusedSimpArgs false
/-- a list whose i first and i last have changed places -/
def rvA (es : List E) (i k : Nat) : E := if k < i ∨ es.length ≤ k + i then gE es (es.length - 1 - k) else gE es k
def rv (es : List E) (i : Nat) : List E := (List.range es.length).map (rvA es i)
end Go.Proofs.YtokaeiahhmaokaaDoor.ds
namespace Go.Proofs.YtokaeiahhmaokaaDoor.ds
open Go.ChangeShapes Go.WideShapes Go.ChangeAt Go.RowKit Go.Sort
set_option linter.unusedVariables false
set_option linter.unusedSimpArgs false
attribute [local go_sem] Oper.semAt_some
theorem box9 {X : World} {b : Nat} {x : E} (e : X.heap[b]? = some (boxE x)) : X.cell? ⟨b, 0, none⟩ = some (.int .i64 x.n) ∧ X.cell? ⟨b, 1, none⟩ = some (.int .i64 x.c) ∧ X.cell? ⟨b, 2, none⟩ = some (.string x.k) ∧ X.cell? ⟨b, 3, none⟩ = some (.bool x.d) ∧ X.cell? ⟨b, 4, none⟩ = some (.slice x.v.p x.v.n x.v.c) ∧ X.cell? ⟨b, 5, none⟩ = some (.slice x.x.p x.x.n x.x.c) := by
  unfold boxE at e
  refine ⟨?_, ?_, ?_, ?_, ?_, ?_⟩ <;> (rw [cell_of_row _ _ _ _ _ _ e]; rfl)
end Go.Proofs.YtokaeiahhmaokaaDoor.ds
namespace Go.Proofs.YtokaeiahhmaokaaDoor.ds
open Go.ChangeShapes Go.WideShapes Go.ChangeAt Go.RowKit Go.Sort
set_option linter.unusedVariables false
set_option linter.unusedSimpArgs false
/-- an operation that is not wanted, of whatever kind -/
theorem wpAnyH_pass {P : Program} {ops : Array Oper} {Q : Exit → Act → World → Prop} {md : Region.Mode} {S : World → Prop} {fuel : Nat} {listed : Array Bool} {a : Act} {w : World} (i : Nat) {o : Oper} (hr : Region.ready md ops listed = [i]) (ho : ops[i]? = some o) (hw : Region.wanted o (yielded ops a.tmps) = false) (hS : S w) (h : wpAnyH P md ops Q S fuel (listed.setIfInBounds i true) (a.put o.dst undef) w) : wpAnyH P md ops Q S (fuel + 1) listed a w :=
  wpAnyH_ready hr (by simp) (AllReadyH.cons ho (fun K' hK => by rw [if_neg (by rw [hw]; simp)]; exact hK.out _ _ hS (fun _ => h)) AllReadyH.nil)
end Go.Proofs.YtokaeiahhmaokaaDoor.ds
