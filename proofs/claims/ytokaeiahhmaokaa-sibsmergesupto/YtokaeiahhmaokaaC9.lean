import Derived.Test.YtokaeiahhmaokaaC8
namespace Go.Proofs.Ytokaeiahhmaokaa.ds
open Go.ChangeShapes Go.WideShapes Go.ChangeAt Go.RowKit Go.Sort
set_option linter.unusedVariables false
set_option linter.unusedSimpArgs false
theorem set_marks (fs : List E) (i : Nat) (hi : i < fs.length) : (List.replicate i markE ++ (fs.drop i ++ [markE, markE])).set i markE = List.replicate (i + 1) markE ++ (fs.drop (i + 1) ++ [markE, markE]) := by
  rw [List.set_append_right _ _ (by simp), List.length_replicate, Nat.sub_self, List.drop_eq_getElem_cons hi, List.cons_append, List.set_cons_zero, List.replicate_succ']
  simp
def set6 (w : World) (g o : Nat) (e : E) : World := (((((w.setCell ⟨g, o, none⟩ (.int .i64 e.n)).setCell ⟨g, o + 1, none⟩ (.int .i64 e.c)).setCell ⟨g, o + 2, none⟩ (.string e.k)).setCell ⟨g, o + 3, none⟩ (.bool e.d)).setCell ⟨g, o + 4, none⟩ e.v.v).setCell ⟨g, o + 5, none⟩ e.x.v
theorem apart_set6 (w : World) (g o : Nat) (e : E) : Apart [g] w (set6 w g o e) := (((((((Apart.refl _ _).setCell (.inl (by simp)) _).setCell (.inl (by simp)) _).setCell (.inl (by simp)) _).setCell (.inl (by simp)) _).setCell (.inl (by simp)) _).setCell (.inl (by simp)) _)
theorem own_set6 {w : World} {G n c : Nat} {es : List E} (h : w.ownsRow 0 28 6 (.slice (some ⟨G, 0, none⟩) n c) n (flatE es)) (i : Nat) (hi : i < es.length) (e : E) : (set6 w G (i * 6) e).ownsRow 0 28 6 (.slice (some ⟨G, 0, none⟩) n c) n (flatE (es.set i e)) := by
  rw [flatE_setW es e i hi]
  exact ((((((h.stored (i * 6) _).1.stored (i * 6 + 1) _).1.stored (i * 6 + 2) _).1.stored (i * 6 + 3) _).1.stored (i * 6 + 4) _).1.stored (i * 6 + 5) _).1
theorem Bk.step {lo hi : Nat} {w0 w W W1 : World} {LB G c : Nat} {vv xx : Sl} {fs : List E} {vs xs : List Sl} {rs : List Wr} {N i : Nat} (h0 : Lt lo hi w0 LB G c vv xx fs vs xs rs N) (h : Bk lo hi w0 w LB G c vv xx fs vs xs rs N i) (hi' : i < N) (kv kx : Nat) (hkv : (gS vs i).v.ownBlock = some kv) (hkx : (gS xs i).v.ownBlock = some kx) (a : Apart [kv, kx] w W) (a1 : Apart [] W W1) :
    Bk lo hi w0 (set6 W1 G (i * 6) markE) LB G c vv xx fs vs xs rs N (i + 1) := by
  have o := h.one i (Nat.le_refl _) hi'
  obtain ⟨cv, tv⟩ := own_typ o.vo hkv
  obtain ⟨cx, tx⟩ := own_typ o.xo hkx
  obtain ⟨cG, tG⟩ := own_typ h.list (k := G) rfl
  have hne : ∀ k ∈ [kv, kx], ∀ (cur : Array Value) (t : TypeId), t ≠ 5 → t ≠ 38 → w.heap[k]? ≠ some (.cells cur t (0, 0)) := by
    intro k hk cur t h5 h38
    simp at hk
    rcases hk with rfl | rfl
    · exact blk_ne tv cur h5
    · exact blk_ne tx cur h38
  have aw : Apart [kv, kx] w W1 := a.trans (a1.mono (by simp))
  have bLB := (aw.block LB (lt_of_heap h.blk) (fun m => hne LB m _ 58 (by decide) (by decide) h.blk)).trans h.blk
  have bG := (aw.block G (lt_of_heap tG) (fun m => hne G m _ 28 (by decide) (by decide) tG)).trans tG
  have list1 := own_apart h.list aw (fun k hk m => by simp [Value.ownBlock] at hk; subst hk; exact hne _ m _ 28 (by decide) (by decide) tG)
  have vals1 := own_apart h.vals aw (fun k hk m => by obtain ⟨cu, tt⟩ := own_typ h.vals hk; exact hne _ m _ 25 (by decide) (by decide) tt)
  have ctxs1 := own_apart h.ctxs aw (fun k hk m => by obtain ⟨cu, tt⟩ := own_typ h.ctxs hk; exact hne _ m _ 26 (by decide) (by decide) tt)
  have aG := apart_set6 W1 G (i * 6) markE
  have hlen : i < (List.replicate i markE ++ (fs.drop i ++ [markE, markE])).length := by simp
  have one1 : ∀ j, i + 1 ≤ j → j < N → One W1 (gE fs j) (gS vs j) (gS xs j) (gR rs j) := fun j hj hjN => by
    have oj := h.one j (by omega) hjN
    refine oj.kept aw (fun k hk m => ?_) (fun k hk m => ?_)
    · simp at m
      rcases m with rfl | rfl
      · have := h0.incv i j (by omega) hjN _ _ hkv hk; omega
      · obtain ⟨cu, tt⟩ := own_typ oj.vo hk
        rw [tx] at tt; simp at tt
    · simp at m
      rcases m with rfl | rfl
      · obtain ⟨cu, tt⟩ := own_typ oj.xo hk
        rw [tv] at tt; simp at tt
      · have := h0.incx i j (by omega) hjN _ _ hkx hk; omega
  refine ⟨(aG.block LB (lt_of_heap bLB) (fun m => by simp at m; subst m; rw [bLB] at bG; simp at bG)).trans bLB, ?_, ?_, ?_, fun j hj hjN => ?_, ?_⟩
  · have := own_set6 list1 i hlen markE
    rwa [set_marks fs i (by rw [h0.fl]; exact hi')] at this
  · exact own_apart vals1 aG (fun k hk m => by simp at m; subst m; obtain ⟨cu, tt⟩ := own_typ vals1 hk; rw [bG] at tt; simp at tt)
  · exact own_apart ctxs1 aG (fun k hk m => by simp at m; subst m; obtain ⟨cu, tt⟩ := own_typ ctxs1 hk; rw [bG] at tt; simp at tt)
  · exact (one1 j hj hjN).keptT aG (fun k hk cur => by simp at hk; subst hk; exact ⟨blk_ne bG cur (by decide), blk_ne bG cur (by decide)⟩)
  · exact h.fr.trans ((aw.fr (by
      intro x hx
      simp at hx
      rcases hx with rfl | rfl
      · exact h0.rv i hi' _ hkv
      · exact h0.rx i hi' _ hkx)).trans (aG.fr (by simp; exact h0.rG)))
end Go.Proofs.Ytokaeiahhmaokaa.ds
namespace Go.Proofs.Ytokaeiahhmaokaa.ds
open Go.ChangeShapes Go.WideShapes Go.ChangeAt Go.RowKit Go.Sort
set_option linter.unusedVariables false
set_option linter.unusedSimpArgs false
theorem Bk.mid {lo hi : Nat} {w0 w W : World} {LB G c : Nat} {vv xx : Sl} {fs : List E} {vs xs : List Sl} {rs : List Wr} {N i : Nat} (h : Bk lo hi w0 w LB G c vv xx fs vs xs rs N i) (h0 : Lt lo hi w0 LB G c vv xx fs vs xs rs N) (hi' : i < N) (kv kx : Nat) (hkv : (gS vs i).v.ownBlock = some kv) (hkx : (gS xs i).v.ownBlock = some kx) (a : Apart [kv, kx] w W) :
    W.heap[LB]? = some (.cells #[.slice (some ⟨G, 0, none⟩) (N + 2) c, vv.v, xx.v] 58 (0, 0)) ∧ W.ownsRow 0 28 6 (.slice (some ⟨G, 0, none⟩) (N + 2) c) (N + 2) (flatE (List.replicate i markE ++ (fs.drop i ++ [markE, markE]))) ∧ G ≠ LB := by
  have o := h.one i (Nat.le_refl _) hi'
  obtain ⟨cv, tv⟩ := own_typ o.vo hkv
  obtain ⟨cx, tx⟩ := own_typ o.xo hkx
  obtain ⟨cG, tG⟩ := own_typ h.list (k := G) rfl
  have hne : ∀ k ∈ [kv, kx], ∀ (cur : Array Value) (t : TypeId), t ≠ 5 → t ≠ 38 → w.heap[k]? ≠ some (.cells cur t (0, 0)) := by
    intro k hk cur t h5 h38
    simp at hk
    rcases hk with rfl | rfl
    · exact blk_ne tv cur h5
    · exact blk_ne tx cur h38
  refine ⟨(a.block LB (lt_of_heap h.blk) (fun m => hne LB m _ 58 (by decide) (by decide) h.blk)).trans h.blk, own_apart h.list a (fun k hk m => by simp [Value.ownBlock] at hk; subst hk; exact hne _ m _ 28 (by decide) (by decide) tG), fun e => ?_⟩
  subst e
  have := h.blk
  rw [tG] at this
  simp at this
end Go.Proofs.Ytokaeiahhmaokaa.ds
