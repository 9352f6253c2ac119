import Derived.Test.YtddffdcjhleejaaGreatG35
import Derived.Test.YtddffdcjhleejaaGreatG20
namespace Go.Proofs.YtddffdcjhleejaaGreat.ds
open Go.ChangeShapes Go.WideShapes Go.ChangeAt Go.RowKit Go.Sort
set_option linter.unusedVariables false
set_option linter.unusedSimpArgs false
theorem infoLo : (Tryz.prog.info? 70).map (fun i => (i.zero, i.size, i.bytes)) = some (some (.agg #[.slice none 0 0, .slice none 0 0]), 2, 48) := by kernel_rfl
/-- the two lists of a loan -/
def lo2 (p : Sl × Sl) : List Value := [.slice p.1.p p.1.n p.1.c, .slice p.2.p p.2.n p.2.c]
def flo (ps : List (Sl × Sl)) : List Value := ps.flatMap lo2
theorem flo_snoc (ps : List (Sl × Sl)) (p : Sl × Sl) : flo (ps ++ [p]) = flo ps ++ lo2 p := by simp [flo]
theorem flatE_snoc (es : List E) (e : E) : flatE (es ++ [e]) = flatE es ++ E.cs e := by simp [flatE]
def gP (ps : List (Sl × Sl)) (k : Nat) : Sl × Sl := ps.getD k (⟨none, 0, 0⟩, ⟨none, 0, 0⟩)
def mkE : E := ⟨0, 0, ⟨#[109, 97, 114, 107]⟩, false, ⟨none, 0, 0⟩, ⟨none, 0, 0⟩⟩
theorem Ln.from {w0 w W : World} {e : E} {r : Wr} {sv sx : Sl} (h : Ln w W e r sv sx) (a : Apart [] w0 w) : Ln w0 W e r sv sx := { h with bv := ⟨h.bv.nw.from a, h.bv.len⟩, bx := ⟨h.bx.nw.from a, h.bx.len, h.bx.fit⟩ }
/-- a message that is being lent: its box M, the loans' block B, their three lists -/
structure LS (w W : World) (B : Nat) (s0 wl el : Sl) (xs : List S) (es : List E) (ps : List (Sl × Sl)) (rs : List Wr) : Prop where
  b : W.heap[B]? = some (.cells #[.slice s0.p s0.n s0.c, .slice wl.p wl.n wl.c, .slice el.p el.n el.c] 53 (0, 0))
  fs : Ss w W s0 (xs ++ [mkS])
  fw : Nw w W 37 6 wl (flatE es)
  wn : wl.n = es.length
  fe : Nw w W 70 2 el (flo ps)
  en : el.n = ps.length
  ln : ∀ j, j < ps.length → Ln w W (gE es j) (gR rs j) (gP ps j).1 (gP ps j).2
  ap : Apart [] w W
  nb : w.heap.size + 2 < B
theorem LS.kept {w W W' : World} {B : Nat} {s0 wl el : Sl} {xs : List S} {es : List E} {ps : List (Sl × Sl)} {rs : List Wr} (h : LS w W B s0 wl el xs es ps rs) (a : Apart [] W W') : LS w W' B s0 wl el xs es ps rs :=
  ⟨(a.block _ (lt_of_heap h.b) (by simp)).trans h.b, h.fs.kept a, h.fw.kept a, h.wn, h.fe.kept a, h.en, fun j hj => (h.ln j hj).kept a, h.ap.trans a, h.nb⟩
/-- one write more in the second list (and in its cell) -/
theorem LS.addW {w W : World} {B : Nat} {s0 wl el : Sl} {xs : List S} {es : List E} {ps : List (Sl × Sl)} {rs : List Wr} (h : LS w W B s0 wl el xs es ps rs) (e : E) (hl : es.length ≤ 2000001) (hpe : ps.length ≤ es.length) :
    ∃ wl' W1 W', (Builtin.append_ #[27, 27] 27 #[.slice wl.p wl.n wl.c, .slice (some ⟨W.heap.size, 0, none⟩) 1 1]).run Tryz.prog (W.alloc (Obj.cells #[.int .i64 e.n, .int .i64 e.c, .string e.k, .bool e.d, .slice e.v.p e.v.n e.v.c, .slice e.x.p e.x.n e.x.c] 37)) = .ok (.slice wl'.p wl'.n wl'.c) W1 ∧ (W1.cell? ⟨B, 1, none⟩ = some (.slice wl.p wl.n wl.c) ∧ W1.frozen? ⟨B, 1, none⟩ = false) ∧ W' = W1.setCell ⟨B, 1, none⟩ (.slice wl'.p wl'.n wl'.c) ∧ LS w W' B s0 wl' el xs (es ++ [e]) ps rs ∧ (∀ (X : Nat) (cur : Array Value) (t : TypeId), W.heap[X]? = some (Obj.cells cur t (0, 0)) → t ≠ 37 → X ≠ B → W'.heap[X]? = some (.cells cur t (0, 0))) ∧ (∀ (e : E) (r : Wr) (sv sx : Sl), Ln w W e r sv sx → Ln w W' e r sv sx) := by
  obtain ⟨i0, hif, hz0, hz1, hz2⟩ := info_parts infoW41
  have hwn := h.wn
  obtain ⟨s5, w5, hrun, hnw5, hs5, ap5, k5, hk5, -, hk6⟩ := run_appM (s := wl) 27 27 37 i0 _ 6 88 Tryz.underlying27 hif hz0 hz1 hz2 rfl (by decide) h.fw 1 (E.cs e) (by decide) rfl (fun u hu => by simp [E.cs, Sl.v] at hu; rcases hu with rfl | rfl | rfl | rfl | rfl | rfl <;> rfl) (by unfold maxLen; omega) (by omega)
  have typ : ∀ (X : Nat) (cur : Array Value) (t : TypeId), W.heap[X]? = some (Obj.cells cur t (0, 0)) → t ≠ 37 → w5.heap[X]? = some (.cells cur t (0, 0)) := fun X cur t hX ht => by
    refine (ap5.block X (lt_of_heap hX) (fun hm => ?_)).trans hX
    obtain ⟨cu, hc⟩ := own_typ h.fw.own (k := X) (by simpa using hm)
    rw [hX] at hc
    simp at hc
    exact ht hc.2
  have hB5 := typ B _ _ h.b (by decide)
  have ap5' : Apart [] w w5 := hnw5.ap
  have aB : Apart [B] w5 (w5.setCell ⟨B, 1, none⟩ (.slice s5.p s5.n s5.c)) := (Apart.refl [B] w5).setCell (.inl (by simp)) _
  have ap6 : Apart [] w (w5.setCell ⟨B, 1, none⟩ (.slice s5.p s5.n s5.c)) := ap5'.setCell (.inr (by have := h.nb; show _ ≤ B; omega)) _
  have hB6 : (w5.setCell ⟨B, 1, none⟩ (.slice s5.p s5.n s5.c)).heap[B]? = some (.cells #[.slice s0.p s0.n s0.c, .slice s5.p s5.n s5.c, .slice el.p el.n el.c] 53 (0, 0)) := by
    have := heap_setCell_same w5 B 1 _ 53 (.slice s5.p s5.n s5.c) hB5
    simpa using this
  have noB : ∀ (tt : Nat), tt ≠ 53 → ∀ k ∈ [B], ∀ cur, w5.heap[k]? ≠ some (.cells cur tt (0, 0)) := fun tt ht k hk cur hh => by
    simp at hk
    rw [hk, hB5] at hh
    simp at hh
    exact ht hh.2.symm
  have noW : ∀ (tt : Nat), tt ≠ 37 → ∀ k ∈ wl.v.ownBlock.toList, ∀ cur, W.heap[k]? ≠ some (.cells cur tt (0, 0)) := fun tt ht k hk cur hh => by
    obtain ⟨cu, hc⟩ := own_typ h.fw.own (k := k) (by simpa using hk)
    rw [hh] at hc
    simp at hc
    exact ht hc.2
  refine ⟨s5, w5, _, hrun, ⟨by rw [cell_of_row _ _ _ _ _ _ hB5]; rfl, frozen_of_row _ _ 1 _ _ hB5⟩, rfl, ⟨hB6, ?_, ?_, by rw [hs5, List.length_append]; simp; omega, ?_, h.en, fun j hj => ?_, ap6, h.nb⟩, fun X cur t hX ht hne => ?_, fun e' r' sv sx hL => ?_⟩
  · exact (h.fs.keepT ap5 ap5' (noW 48 (by decide))).keepT aB ap6 (noB 48 (by decide))
  · rw [flatE_snoc]; exact hnw5.keepT aB ap6 (noB 37 (by decide))
  · exact (h.fe.keepT ap5 ap5' (noW 70 (by decide))).keepT aB ap6 (noB 70 (by decide))
  · have hge : gE (es ++ [e]) j = gE es j := by
      unfold gE
      rw [List.getD_eq_getElem?_getD, List.getD_eq_getElem?_getD, List.getElem?_append_left (by omega)]
    rw [hge]
    exact ((h.ln j hj).keepT ap5 ap5' (fun k hk cur => ⟨noW 5 (by decide) k hk cur, noW 48 (by decide) k hk cur⟩)).keepT aB ap6 (fun k hk cur => ⟨noB 5 (by decide) k hk cur, noB 48 (by decide) k hk cur⟩)
  · exact (aB.block X (lt_of_heap (typ X cur t hX ht)) (by simpa using hne)).trans (typ X cur t hX ht)
  · exact (hL.keepT ap5 ap5' (fun k hk cur => ⟨noW 5 (by decide) k hk cur, noW 48 (by decide) k hk cur⟩)).keepT aB ap6 (fun k hk cur => ⟨noB 5 (by decide) k hk cur, noB 48 (by decide) k hk cur⟩)
/-- one loan more in the third list (and in its cell) -/
theorem LS.addL {w W : World} {B : Nat} {s0 wl el : Sl} {xs : List S} {es : List E} {ps : List (Sl × Sl)} {rs : List Wr} (h : LS w W B s0 wl el xs es ps rs) (p : Sl × Sl) (hl : ps.length ≤ 2000001) (hn : Ln w W (gE es ps.length) (gR rs ps.length) p.1 p.2) :
    ∃ el' W1 W', (Builtin.append_ #[51, 51] 51 #[.slice el.p el.n el.c, .slice (some ⟨W.heap.size, 0, none⟩) 1 1]).run Tryz.prog (W.alloc (Obj.cells #[.slice p.1.p p.1.n p.1.c, .slice p.2.p p.2.n p.2.c] 70)) = .ok (.slice el'.p el'.n el'.c) W1 ∧ (W1.cell? ⟨B, 2, none⟩ = some (.slice el.p el.n el.c) ∧ W1.frozen? ⟨B, 2, none⟩ = false) ∧ W' = W1.setCell ⟨B, 2, none⟩ (.slice el'.p el'.n el'.c) ∧ LS w W' B s0 wl el' xs es (ps ++ [p]) rs ∧ (∀ (X : Nat) (cur : Array Value) (t : TypeId), W.heap[X]? = some (Obj.cells cur t (0, 0)) → t ≠ 70 → X ≠ B → W'.heap[X]? = some (.cells cur t (0, 0))) := by
  obtain ⟨i0, hif, hz0, hz1, hz2⟩ := info_parts infoLo
  have hwn := h.en
  obtain ⟨s5, w5, hrun, hnw5, hs5, ap5, k5, hk5, -, hk6⟩ := run_appM (s := el) 51 51 70 i0 _ 2 48 Tryz.underlying51 hif hz0 hz1 hz2 rfl (by decide) h.fe 1 (lo2 p) (by decide) rfl (fun u hu => by simp [lo2] at hu; rcases hu with rfl | rfl <;> rfl) (by unfold maxLen; omega) (by omega)
  have typ : ∀ (X : Nat) (cur : Array Value) (t : TypeId), W.heap[X]? = some (Obj.cells cur t (0, 0)) → t ≠ 70 → w5.heap[X]? = some (.cells cur t (0, 0)) := fun X cur t hX ht => by
    refine (ap5.block X (lt_of_heap hX) (fun hm => ?_)).trans hX
    obtain ⟨cu, hc⟩ := own_typ h.fe.own (k := X) (by simpa using hm)
    rw [hX] at hc
    simp at hc
    exact ht hc.2
  have hB5 := typ B _ _ h.b (by decide)
  have ap5' : Apart [] w w5 := hnw5.ap
  have aB : Apart [B] w5 (w5.setCell ⟨B, 2, none⟩ (.slice s5.p s5.n s5.c)) := (Apart.refl [B] w5).setCell (.inl (by simp)) _
  have ap6 : Apart [] w (w5.setCell ⟨B, 2, none⟩ (.slice s5.p s5.n s5.c)) := ap5'.setCell (.inr (by have := h.nb; show _ ≤ B; omega)) _
  have hB6 : (w5.setCell ⟨B, 2, none⟩ (.slice s5.p s5.n s5.c)).heap[B]? = some (.cells #[.slice s0.p s0.n s0.c, .slice wl.p wl.n wl.c, .slice s5.p s5.n s5.c] 53 (0, 0)) := by
    have := heap_setCell_same w5 B 2 _ 53 (.slice s5.p s5.n s5.c) hB5
    simpa using this
  have noB : ∀ (tt : Nat), tt ≠ 53 → ∀ k ∈ [B], ∀ cur, w5.heap[k]? ≠ some (.cells cur tt (0, 0)) := fun tt ht k hk cur hh => by
    simp at hk
    rw [hk, hB5] at hh
    simp at hh
    exact ht hh.2.symm
  have noW : ∀ (tt : Nat), tt ≠ 70 → ∀ k ∈ el.v.ownBlock.toList, ∀ cur, W.heap[k]? ≠ some (.cells cur tt (0, 0)) := fun tt ht k hk cur hh => by
    obtain ⟨cu, hc⟩ := own_typ h.fe.own (k := k) (by simpa using hk)
    rw [hh] at hc
    simp at hc
    exact ht hc.2
  have keepL : ∀ {e : E} {r : Wr} {sv sx : Sl}, Ln w W e r sv sx → Ln w (w5.setCell ⟨B, 2, none⟩ (.slice s5.p s5.n s5.c)) e r sv sx := fun hL => (hL.keepT ap5 ap5' (fun k hk cur => ⟨noW 5 (by decide) k hk cur, noW 48 (by decide) k hk cur⟩)).keepT aB ap6 (fun k hk cur => ⟨noB 5 (by decide) k hk cur, noB 48 (by decide) k hk cur⟩)
  refine ⟨s5, w5, _, hrun, ⟨by rw [cell_of_row _ _ _ _ _ _ hB5]; rfl, frozen_of_row _ _ 2 _ _ hB5⟩, rfl, ⟨hB6, ?_, ?_, h.wn, ?_, by rw [hs5, List.length_append]; simp; omega, fun j hj => ?_, ap6, h.nb⟩, fun X cur t hX ht hne => ?_⟩
  · exact (h.fs.keepT ap5 ap5' (noW 48 (by decide))).keepT aB ap6 (noB 48 (by decide))
  · exact (h.fw.keepT ap5 ap5' (noW 37 (by decide))).keepT aB ap6 (noB 37 (by decide))
  · rw [flo_snoc]; exact hnw5.keepT aB ap6 (noB 70 (by decide))
  · by_cases hjl : j < ps.length
    · have hge : gP (ps ++ [p]) j = gP ps j := by
        unfold gP
        rw [List.getD_eq_getElem?_getD, List.getD_eq_getElem?_getD, List.getElem?_append_left hjl]
      rw [hge]
      exact keepL (h.ln j hjl)
    · have hje : j = ps.length := by simp at hj; omega
      have hge : gP (ps ++ [p]) j = p := by
        unfold gP
        rw [List.getD_eq_getElem?_getD, List.getElem?_append_right (by omega), hje, Nat.sub_self]; rfl
      rw [hge, hje]
      exact keepL hn
  · exact (aB.block X (lt_of_heap (typ X cur t hX ht)) (by simpa using hne)).trans (typ X cur t hX ht)
end Go.Proofs.YtddffdcjhleejaaGreat.ds
