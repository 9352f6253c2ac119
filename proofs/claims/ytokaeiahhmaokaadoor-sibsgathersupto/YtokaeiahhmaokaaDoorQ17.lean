import Derived.Test.YtokaeiahhmaokaaDoorQ16
namespace Go.Proofs.YtokaeiahhmaokaaDoor.ds
open Go.ChangeShapes Go.WideShapes Go.ChangeAt Go.RowKit Go.Sort
set_option linter.unusedVariables false
set_option linter.unusedSimpArgs false
/-- one more at its end -/
theorem run_appEN {w W : World} {s : Sl} {es : List E} (h : OwnE w W s es) (hn : s.n ≤ 2000000) (e : E) (ty : TypeId) :
    ∃ s' W', (Builtin.append_ #[39, 39] ty #[s.v, .slice (some ⟨W.heap.size, 0, none⟩) 1 1]).run Tryd.prog (W.alloc (boxE e)) = .ok (Sl.v s') W' ∧ OwnE w W' s' (es ++ [e]) ∧ s'.n = s.n + 1 ∧ Apart s.v.ownBlock.toList W W' ∧ (s'.v.ownBlock = s.v.ownBlock ∨ ∃ q, s'.v.ownBlock = some q ∧ W.heap.size ≤ q) := by
  obtain ⟨i0, hi, hz0, hz1, hz2⟩ := info_parts infoW
  have o1 := (h.kept ((Apart.refl [] W).alloc (boxE e))).nw.own
  have hcs : ∀ j u, (E.cs e)[j]? = some u → (W.alloc (boxE e)).cell? ((⟨W.heap.size, 0, none⟩ : Addr).add j) = some u := by
    intro j u hj
    rw [Addr.add_lit, Nat.zero_add, cell_of_row _ _ _ _ _ _ (heap_alloc_new W (boxE e))]
    simpa [E.cs] using hj
  have one : ∀ u ∈ E.cs e, u.oneCell' = true := fun u hu => oneE [e] u (by simpa [flatE] using hu)
  have key : ∃ v' W', (Builtin.append_ #[39, 39] ty #[s.v, .slice (some ⟨W.heap.size, 0, none⟩) 1 1]).run Tryd.prog (W.alloc (boxE e)) = .ok v' W' ∧ W'.ownsRow 0 28 6 v' (s.n + 1) (flatE es ++ E.cs e) ∧ (W.alloc (boxE e)).grownBy W' s.v.ownBlock ∧ NewOr (W.alloc (boxE e)) s.v v' := by
    obtain ⟨p, n, c⟩ := s
    simp only at hn
    have o2 := o1
    unfold Sl.v at o1 ⊢
    obtain ⟨_, ⟨hv, hz⟩ | ⟨g, cap, cur, hv, _⟩⟩ := o2
    · unfold Sl.v at hv
      simp at hv
      obtain ⟨rfl, rfl, rfl⟩ := hv
      exact run_append2 (W.alloc (boxE e)) 39 ty 28 i0 _ 6 88 Tryd.underlying39 hi hz0 hz1 hz2 rfl (by decide) (.slice none 0 0) 0 (flatE es) o1 ⟨W.heap.size, 0, none⟩ 1 1 (E.cs e) (by simp) (by simp [E.cs]) hcs one (by decide) (by decide)
    · unfold Sl.v at hv
      simp at hv
      obtain ⟨rfl, rfl⟩ := hv
      exact run_append3 (W.alloc (boxE e)) 39 ty 28 i0 _ 6 88 Tryd.underlying39 hi hz0 hz1 hz2 rfl (by decide) g n c (flatE es) o1 ⟨W.heap.size, 0, none⟩ 1 1 (E.cs e) (by simp [E.cs]) hcs one (by unfold maxLen; omega) (by omega)
  obtain ⟨v', W', hrun, r1, r2, r3⟩ := key
  have ap : Apart s.v.ownBlock.toList W W' := (((Apart.refl _ W).alloc (boxE e))).trans (apart_grown r2)
  have hnew : ∀ k, v'.ownBlock = some k → w.heap.size ≤ k := by
    intro k hk
    rcases r3 with r3 | ⟨q, r3, hq⟩
    · exact h.nw.new k (r3 ▸ hk)
    · rw [r3] at hk; simp at hk; subst hk
      simp at hq
      have := h.nw.ap.size
      omega
  have hnq : v'.ownBlock = s.v.ownBlock ∨ ∃ q, v'.ownBlock = some q ∧ W.heap.size ≤ q := by
    rcases r3 with r3 | ⟨q, r3, hq⟩
    · exact .inl r3
    · exact .inr ⟨q, r3, by simp at hq; omega⟩
  obtain ⟨s', rfl, hs'⟩ : ∃ s' : Sl, v' = s'.v ∧ s'.n = s.n + 1 := by
    obtain ⟨_, ⟨hv, hz⟩ | ⟨g, cap, cur, hv, _⟩⟩ := r1
    · exact absurd hz (by omega)
    · exact ⟨⟨some ⟨g, 0, none⟩, s.n + 1, cap⟩, hv, rfl⟩
  refine ⟨s', W', hrun, ⟨⟨by rw [hs', ← flatE_snoc]; exact r1, hnew, h.nw.ap.trans' ap (fun y hy => ?_)⟩, by rw [List.length_append, h.len, hs']; rfl⟩, hs', ap, hnq⟩
  simp at hy
  exact .inr (h.nw.new y hy)

/-- a block that is no cells may change -/
theorem U1.grown {w W W' : World} {Cb b3 b4 N : Nat} {cs : List Bool} {kn : List S} {X : List Nat} {row : Option Nat} (h : U1 w W Cb b3 b4 N cs kn X) (hg : W.grownBy W' row) (hr : ∀ r, row = some r → w.heap.size ≤ r ∧ ∃ o : Obj, W.heap[r]? = some o ∧ o.isCells = false) : U1 w W' Cb b3 b4 N cs kn X := by
  have kc : ∀ (k : Nat) (o : Obj), W.heap[k]? = some o → o.isCells = true → W'.heap[k]? = W.heap[k]? := fun k o hk hc => grownBy_keeps_cells hg (fun r e => (hr r e).2) hk hc
  obtain ⟨q, n, c, h4, hl, hq⟩ := h.k
  refine ⟨h.ap.trans' (apart_grown hg) (fun y hy => ?_), h.new, h.ne, h.len, (kc _ _ h.c3 rfl).trans h.c3, (kc _ _ h.cC rfl).trans h.cC, q, n, c, (kc _ _ h4 rfl).trans h4, ?_, hq⟩
  · simp at hy; exact .inr (hr y hy).1
  · refine { hl with sp := fun h0 => ?_ }
    obtain ⟨P, o, e, hP, hc⟩ := hl.sp h0
    refine ⟨P, o, e, Nat.lt_of_lt_of_le hP hg.size, fun i hi => ?_⟩
    obtain ⟨a, b, c⟩ := hc i hi
    exact ⟨cell_kept a hg (fun r e => (hr r e).2), cell_kept b hg (fun r e => (hr r e).2), cell_kept c hg (fun r e => (hr r e).2)⟩
/-- .. and of left -/
structure U2 (w W : World) (Cb b3 b4 b7 z N : Nat) (cs : List Bool) (kn : List S) (left : List E) : Prop where
  ex : ∃ s : Sl, U1 w W Cb b3 b4 N cs kn (b7 :: s.v.ownBlock.toList) ∧ W.heap[b7]? = some (.cells #[s.v] 39 (0, 0)) ∧ OwnE w W s left ∧ ∀ B, s.v.ownBlock = some B → z ≤ B
  lt : Cb < z ∧ b3 < z ∧ b4 < z ∧ b7 < z
  n7 : w.heap.size ≤ b7
  ne : b7 ≠ Cb ∧ b7 ≠ b3 ∧ b7 ≠ b4
theorem U2.start {w W : World} {Cb b3 b4 N : Nat} {cs : List Bool} (h : U1 w W Cb b3 b4 N cs [] []) (z : Nat) (hz : W.heap.size < z) : U2 w (W.alloc (.cells #[.slice none 0 0] 39)) Cb b3 b4 W.heap.size z N cs [] [] := by
  have a : Apart [] W (W.alloc (.cells #[.slice none 0 0] 39)) := (Apart.refl _ _).alloc _
  have e1 := lt_of_heap h.c3
  have e2 := lt_of_heap h.cC
  obtain ⟨q, n, c, h4, _, _⟩ := h.k
  have e3 := lt_of_heap h4
  refine ⟨⟨⟨none, 0, 0⟩, (h.exch (X' := [W.heap.size]) (by simp)).apart0 a, heap_alloc_new W _, OwnE.nil _ _ (h.ap.trans a), fun B hB => by simp [Sl.v, Value.ownBlock] at hB⟩, by omega, h.ap.size, by omega⟩
theorem U2.apart0 {w W W' : World} {Cb b3 b4 b7 z N : Nat} {cs : List Bool} {kn : List S} {left : List E} (h : U2 w W Cb b3 b4 b7 z N cs kn left) (a : Apart [] W W') : U2 w W' Cb b3 b4 b7 z N cs kn left := by
  obtain ⟨s, h1, h7, ho, hB⟩ := h.ex
  exact ⟨⟨s, h1.apart0 a, (a.block _ (lt_of_heap h7) (by simp)).trans h7, ho.kept a, hB⟩, h.lt, h.n7, h.ne⟩
theorem U2.grown {w W W' : World} {Cb b3 b4 b7 z N : Nat} {cs : List Bool} {kn : List S} {left : List E} {row : Option Nat} (h : U2 w W Cb b3 b4 b7 z N cs kn left) (hg : W.grownBy W' row) (hr : ∀ r, row = some r → w.heap.size ≤ r ∧ ∃ o : Obj, W.heap[r]? = some o ∧ o.isCells = false) : U2 w W' Cb b3 b4 b7 z N cs kn left := by
  obtain ⟨s, h1, h7, ho, hB⟩ := h.ex
  have h1' := h1.grown hg hr
  refine ⟨⟨s, h1', (grownBy_keeps_cells hg (fun r e => (hr r e).2) h7 rfl).trans h7, ⟨⟨own_apart ho.nw.own (apart_grown hg) (fun k hk m => ?_), ho.nw.new, h1'.ap⟩, ho.len⟩, hB⟩, h.lt, h.n7, h.ne⟩
  obtain ⟨cur, hc⟩ := own_typ ho.nw.own hk
  simp at m
  obtain ⟨o, h2, h3⟩ := (hr k m).2
  rw [hc] at h2
  cases h2
  cases h3
/-- known is another list -/
theorem U2.setK {w W0 W : World} {Cb b3 b4 b7 z N : Nat} {cs : List Bool} {kn kn' : List S} {left : List E} (h : U2 w W0 Cb b3 b4 b7 z N cs kn left) (a : Apart [] W0 W) {q : Option Addr} {n : Nat} (c : Nat) (hl : L W q n kn') (hn : NewP W0 q) : U2 w (W.setCell ⟨b4, 0, none⟩ (.slice q n c)) Cb b3 b4 b7 z N cs kn' left := by
  obtain ⟨s, h1, h7, ho, hB⟩ := h.ex
  have ab : Apart [b4] W (W.setCell ⟨b4, 0, none⟩ (.slice q n c)) := (Apart.refl _ _).setCell (.inl (by simp)) _
  have e1 := lt_of_heap h1.c3
  have e2 := lt_of_heap h1.cC
  obtain ⟨q0, n0, c0, h4, _, _⟩ := h1.k
  have e3 := lt_of_heap h4
  have e7 := lt_of_heap h7
  have h2 := (h1.apart0 a).setK c hl (fun _ P o e m => by
    have hP := hn P o e
    simp at m
    rcases m with m | m | m | m | m
    · omega
    · omega
    · omega
    · omega
    · obtain ⟨cur, hc⟩ := own_typ ho.nw.own m
      have := lt_of_heap hc
      omega)
  refine ⟨⟨s, h2, (ab.block _ (Nat.lt_of_lt_of_le e7 a.size) (by simp; exact h.ne.2.2)).trans ((a.block _ e7 (by simp)).trans h7), ⟨⟨own_apart (ho.kept a).nw.own ab (fun k hk m => ?_), ho.nw.new, h2.ap⟩, ho.len⟩, hB⟩, h.lt, h.n7, h.ne⟩
  simp at m
  have := hB k hk
  have := h.lt.2.2.1
  omega
/-- what a round changes -/
structure Ch (z b4 b7 : Nat) (W W' : World) : Prop where
  size : W.heap.size ≤ W'.heap.size
  low : ∀ k, k < z → k < W.heap.size → k ≠ b4 → k ≠ b7 → W'.heap[k]? = W.heap[k]?
  oth : ∀ (k : Nat) (o : Obj), W.heap[k]? = some o → o.isCells = false → W'.heap[k]? = some o
theorem Ch.trans {z b4 b7 : Nat} {A B C : World} (h : Ch z b4 b7 A B) (k : Ch z b4 b7 B C) : Ch z b4 b7 A C :=
  ⟨Nat.le_trans h.size k.size, fun i h1 h2 h3 h4 => (k.low i h1 (Nat.lt_of_lt_of_le h2 h.size) h3 h4).trans (h.low i h1 h2 h3 h4), fun i o h1 h2 => k.oth i o (h.oth i o h1 h2) h2⟩
theorem Ch.of_apart {z b4 b7 : Nat} {A B : World} {X : List Nat} (a : Apart X A B) (hX : ∀ x ∈ X, (x = b4 ∨ x = b7 ∨ z ≤ x) ∧ ∃ o : Obj, A.heap[x]? = some o ∧ o.isCells = true) : Ch z b4 b7 A B := by
  refine ⟨a.size, fun k h1 h2 h3 h4 => a.block k h2 (fun m => ?_), fun k o h1 h2 => (a.block k (lt_of_heap h1) (fun m => ?_)).trans h1⟩
  · rcases (hX k m).1 with h | h | h
    · exact h3 h
    · exact h4 h
    · omega
  · obtain ⟨o', e1, e2⟩ := (hX k m).2
    rw [h1] at e1
    cases e1
    rw [h2] at e2
    cases e2
theorem Ch.of_apart0 {z b4 b7 : Nat} {A B : World} (a : Apart [] A B) : Ch z b4 b7 A B := Ch.of_apart a (by simp)
theorem U2.ch {w W0 W : World} {Cb b3 b4 b7 z N : Nat} {cs : List Bool} {kn : List S} {left : List E} (h : U2 w W0 Cb b3 b4 b7 z N cs kn left) (a : Apart [] W0 W) (v : Value) : Ch z b4 b7 W0 (W.setCell ⟨b4, 0, none⟩ v) := by
  obtain ⟨s, h1, h7, ho, hB⟩ := h.ex
  obtain ⟨q0, n0, c0, h4, _, _⟩ := h1.k
  exact (Ch.of_apart0 a).trans (Ch.of_apart (X := [b4]) ((Apart.refl _ _).setCell (.inl (by simp)) _) (fun x hx => by
    simp at hx; subst hx
    exact ⟨.inl rfl, _, (a.block _ (lt_of_heap h4) (by simp)).trans h4, rfl⟩))
/-- one more is left -/
theorem U2.app {w W : World} {Cb b3 b4 b7 z N : Nat} {cs : List Bool} {kn : List S} {left : List E} {s : Sl} (h : U2 w W Cb b3 b4 b7 z N cs kn left) (hz : z ≤ W.heap.size) (hs : W.heap[b7]? = some (.cells #[s.v] 39 (0, 0))) (hn : left.length ≤ 2000000) (x : E) (ty : TypeId) :
    ∃ s' W', (Builtin.append_ #[39, 39] ty #[s.v, .slice (some ⟨W.heap.size, 0, none⟩) 1 1]).run Tryd.prog (W.alloc (boxE x)) = .ok (Sl.v s') W' ∧ W'.heap[b7]? = some (.cells #[s.v] 39 (0, 0)) ∧ U2 w (W'.setCell ⟨b7, 0, none⟩ s'.v) Cb b3 b4 b7 z N cs kn (left ++ [x]) ∧ Ch z b4 b7 W (W'.setCell ⟨b7, 0, none⟩ s'.v) ∧ Apart s.v.ownBlock.toList W W' ∧ (∀ B, s.v.ownBlock = some B → z ≤ B) := by
  obtain ⟨s0, h1, h7, ho, hB⟩ := h.ex
  have hss : s0 = s := by
    rw [hs] at h7
    simp [Sl.v] at h7
    cases s0; cases s
    simp_all
  subst hss
  obtain ⟨s', W', hrun, ho', hn', ap, hnq⟩ := run_appEN ho (by rw [← ho.len]; exact hn) x ty
  have hlt7 := h.lt
  have h7' : W'.heap[b7]? = some (.cells #[s0.v] 39 (0, 0)) := (ap.block _ (lt_of_heap h7) (fun m => by simp at m; have := hB _ m; omega)).trans h7
  have hB' : ∀ B, s'.v.ownBlock = some B → z ≤ B := by
    intro B hb
    rcases hnq with e | ⟨q, e, hq⟩
    · exact hB B (e ▸ hb)
    · rw [e] at hb; cases hb; omega
  have u1 : U1 w W Cb b3 b4 N cs kn (b7 :: (s0.v.ownBlock.toList ++ s'.v.ownBlock.toList)) := h1.exch (fun y hy => by
    simp at hy
    rcases hy with hy | hy | hy
    · simp [hy]
    · simp [hy]
    · rcases hnq with e | ⟨q, e, hq⟩
      · rw [e] at hy; simp [hy]
      · rw [e] at hy; cases hy; exact .inr hq)
  have u2 : U1 w W' Cb b3 b4 N cs kn (b7 :: (s0.v.ownBlock.toList ++ s'.v.ownBlock.toList)) := u1.apart ap (fun y hy => by
    simp at hy
    have h3 := hB y hy
    have h4 := ho.nw.new y hy
    exact ⟨by simp [hy], by omega, by omega, by omega, h4⟩)
  have ab : Apart [b7] W' (W'.setCell ⟨b7, 0, none⟩ s'.v) := (Apart.refl _ _).setCell (.inl (by simp)) _
  have u3 := u2.apart ab (fun y hy => by simp at hy; subst hy; exact ⟨by simp, h.ne.1, h.ne.2.1, h.ne.2.2, h.n7⟩)
  refine ⟨s', W', hrun, h7', ⟨⟨s', u3.exch (fun y hy => .inl (by simp at hy ⊢; rcases hy with hy | hy <;> simp [hy])), ?_, ⟨⟨own_apart ho'.nw.own ab (fun k hk m => by simp at m; have := hB' k hk; omega), ho'.nw.new, u3.ap⟩, ho'.len⟩, hB'⟩, h.lt, h.n7, h.ne⟩, ?_, ap, hB⟩
  · have := heap_setCell_same W' b7 0 _ 39 s'.v h7'
    rw [this]; rfl
  · refine (Ch.of_apart ap (fun y hy => ?_)).trans (Ch.of_apart ab (fun y hy => ?_))
    · simp at hy
      obtain ⟨cur, hc⟩ := own_typ ho.nw.own hy
      exact ⟨.inr (.inr (hB y hy)), _, hc, rfl⟩
    · simp at hy; subst hy
      exact ⟨.inr (.inl rfl), _, h7', rfl⟩
/-- the second loop, on lists -/
noncomputable def stU (es : List E) (rs : List Wr) (st : List S × List E) (c : Nat) : List S × List E := (knows st.1 (gR rs c).xs, if (!cvd rs c && !hasd st.1 (gR rs c).n (gR rs c).c) = true then st.2 ++ [gE es c] else st.2)
noncomputable def foU (es : List E) (rs : List Wr) {N : Nat} (l : List (Fin N)) : List S × List E := l.foldl (fun st c => stU es rs st c.1) ([], [])
theorem foU_snoc (es : List E) (rs : List Wr) {N : Nat} (l : List (Fin N)) (c : Fin N) : foU es rs (l ++ [c]) = stU es rs (foU es rs l) c.1 := by simp [foU, List.foldl_append]
theorem fo_ok (es : List E) (rs : List Wr) {N : Nat} (l : List (Fin N)) : ∀ st : List S × List E, OkL 64 st.1 → OkL 64 (l.foldl (fun st c => stU es rs st c.1) st).1 := by
  induction l with
  | nil => intro st h; exact h
  | cons c l ih => intro st h; exact ih _ (knows_ok h)
theorem foU_ok (es : List E) (rs : List Wr) {N : Nat} (l : List (Fin N)) : OkL 64 (foU es rs l).1 := fo_ok es rs l _ (OkL.nil 64)
theorem fo_len (es : List E) (rs : List Wr) {N : Nat} (l : List (Fin N)) : ∀ st : List S × List E, (l.foldl (fun st c => stU es rs st c.1) st).2.length ≤ st.2.length + l.length := by
  induction l with
  | nil => intro st; simp
  | cons c l ih =>
    intro st
    refine Nat.le_trans (ih _) ?_
    unfold stU
    dsimp only
    split
    · rw [List.length_append, List.length_cons, List.length_nil, List.length_cons]; omega
    · rw [List.length_cons]; omega
theorem foU_len (es : List E) (rs : List Wr) {N : Nat} (l : List (Fin N)) : (foU es rs l).2.length ≤ l.length := by
  have := fo_len es rs l ([], [])
  simpa [foU] using this
theorem foU_dn (es : List E) (rs : List Wr) (N : Nat) (hl : rs.length = N) : ∀ m, m ≤ N → foU es rs (dn N m) = (bhd rs (N - m), bU es rs N m)
  | 0, _ => by simp [foU, dn, bU, bhd_end rs N (by omega)]
  | m + 1, hm => by
    rw [dn_succ N m (by omega), foU_snoc, foU_dn es rs N hl m (by omega)]
    have e1 : N - (m + 1) = N - 1 - m := by omega
    have e2 : N - 1 - m + 1 = N - m := by omega
    have e3 := bhd_pred rs (N - 1 - m) (by omega)
    rw [e2] at e3
    unfold stU
    dsimp only
    rw [e1, e3]
    congr 1
    conv => rhs; unfold bU
    unfold uncd
    rw [e2]
end Go.Proofs.YtokaeiahhmaokaaDoor.ds
