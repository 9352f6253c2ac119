import Derived.Test.YthfjkddninlbcaaWorld
namespace Go.Proofs.Ythfjkddninlbcaa.hp
open Go.ChangeShapes Go.WideShapes Go.ChangeAt Go.RowKit
set_option linter.unusedVariables false
section
variable {w : World} {H : Nat} {v : Value} {row : List E} {n : Nat}
theorem hp_push (h : HP w H v row n) (a b : Int) (hage : ∀ e ∈ row, e.a < n) (hl : row.length < 4000000) (hn : n < 4000000) :
    Calls Try.prog 11 #[.pointer (some ⟨H, 0, none⟩), .agg #[.int .i64 a, .int .i64 b]] w fun r w' => r = .returned (.tuple #[]) ∧ ∃ v', HP w' H v' (rowOf (row ++ [⟨a, b, n⟩])) (n + 1) ∧ Apart (ids H v) w w' ∧ NewOr w v v' := by
  obtain ⟨es, h1, h2, h3⟩ := h.ex
  refine (push_at kindLex w H v es n h1 a b (by rw [h3.length_eq]; exact hl) hn).mono ?_
  rintro r w' ⟨rfl, ⟨v', cs, at', perm, hp, ap, nw⟩⟩
  refine ⟨rfl, v', ⟨⟨cs, at', hp lex lexFits h2, (perm.trans (h3.append_right _)).trans (rowOf_perm _).symm⟩, rowOf_up _, Dist.perm (rowOf_perm _) ?_⟩, ap, nw⟩
  exact List.pairwise_append.2 ⟨h.di, by simp, fun x hx y hy => by simp at hy; subst hy; have := hage x hx; simp; omega⟩
theorem hp_len (h : HP w H v row n) (N : Nat) (hN : row.length = N) : Calls Try.prog 14 #[.pointer (some ⟨H, 0, none⟩)] w fun r w' => r = .returned (.int .i64 N) ∧ w' = w := by
  obtain ⟨es, h1, h2, h3⟩ := h.ex
  have := len_at w H v es n h1
  rwa [h3.length_eq, hN] at this
theorem HP.ofRow (h : HP w H v row n) : ∃ es, At w H freshF [] v es n ∧ Own w w H es n → True := ⟨[], fun _ => trivial⟩
theorem hp_of_take {w' : World} {k : Nat} {e : E} {es : List E} (h : HP w H v row n) (h1 : At w H freshF [] v es n) (h2 : Hp lex es) (h3 : es.Perm row) (t : TakePost LexR freshF [] w w' H v es k n e) : e = g row k ∧ ∃ v', HP w' H v' (row.eraseIdx k) n ∧ Apart (ids H v) w w' ∧ NewOr w v v' := by
  obtain ⟨v', ps, rest, cs, hpl, at', p1, p2, p3, ap, nw⟩ := t.ex
  obtain ⟨q1, q2⟩ := p3 lex lexFits h2
  obtain ⟨r1, r2⟩ := row_take h.di h.up (p2.trans h3) q2 p1
  subst hpl
  exact ⟨r1, v', ⟨⟨cs, at', q1, r2⟩, h.up.erase _, h.di.erase _⟩, ap, nw⟩
theorem hp_take (h : HP w H v row n) (k : Nat) (hk : k < row.length) :
    Calls Try.prog 18 #[.pointer (some ⟨H, 0, none⟩), .int .i64 k] w fun r w' => r = .returned (.tuple #[.agg #[.int .i64 (g row k).r, .int .i64 (g row k).m], .bool true]) ∧ ∃ v', HP w' H v' (row.eraseIdx k) n ∧ Apart (ids H v) w w' ∧ NewOr w v v' := by
  obtain ⟨es, h1, h2, h3⟩ := h.ex
  have hl := h3.length_eq
  obtain ⟨G, cap, rfl, hcap⟩ := h1.shape (by omega)
  refine (take_at kindLex w H G cap es.length k n es h1 rfl (by omega)).mono ?_
  rintro r w' ⟨e, rfl, t⟩
  obtain ⟨rfl, q⟩ := hp_of_take h h1 h2 h3 t
  exact ⟨rfl, q⟩
theorem hp_pop (h : HP w H v row n) (hk : 0 < row.length) :
    Calls Try.prog 13 #[.pointer (some ⟨H, 0, none⟩)] w fun r w' => r = .returned (.tuple #[.agg #[.int .i64 (g row 0).r, .int .i64 (g row 0).m], .bool true]) ∧ ∃ v', HP w' H v' (row.eraseIdx 0) n ∧ Apart (ids H v) w w' ∧ NewOr w v v' := by
  obtain ⟨es, h1, h2, h3⟩ := h.ex
  have hl := h3.length_eq
  obtain ⟨G, cap, rfl, hcap⟩ := h1.shape (by omega)
  refine (pop_at kindLex w H G cap es.length n es h1 rfl (by omega)).mono ?_
  rintro r w' ⟨e, rfl, t⟩
  obtain ⟨rfl, q⟩ := hp_of_take h h1 h2 h3 t
  exact ⟨rfl, q⟩
theorem hp_take_none (h : HP w H v row n) (k : Int) (hk : k < 0 ∨ (row.length : Int) ≤ k) :
    Calls Try.prog 18 #[.pointer (some ⟨H, 0, none⟩), .int .i64 k] w fun r w' => r = .returned (.tuple #[.agg #[.int .i64 0, .int .i64 0], .bool false]) ∧ Apart [] w w' := by
  obtain ⟨es, h1, h2, h3⟩ := h.ex
  exact take_none w H v es n h1 k (by rw [h3.length_eq]; exact hk)
theorem hp_pop_none (h : HP w H v row n) (hk : row.length = 0) :
    Calls Try.prog 13 #[.pointer (some ⟨H, 0, none⟩)] w fun r w' => r = .returned (.tuple #[.agg #[.int .i64 0, .int .i64 0], .bool false]) ∧ Apart [] w w' := by
  obtain ⟨es, h1, h2, h3⟩ := h.ex
  exact pop_none w H v es n h1 (by rw [h3.length_eq]; exact hk)
theorem hp_least_none (h : HP w H v row n) (hk : row.length = 0) :
    Calls Try.prog 12 #[.pointer (some ⟨H, 0, none⟩)] w fun r w' => r = .returned (.tuple #[.agg #[.int .i64 0, .int .i64 0], .bool false]) ∧ Apart [] w w' := by
  obtain ⟨es, h1, h2, h3⟩ := h.ex
  exact least_none w H v es n h1 (by rw [h3.length_eq]; exact hk)
theorem row_first {es row : List E} (hp : Hp lex es) (p : es.Perm row) (up : Up row) (di : Dist row) (h0 : 0 < row.length) : g es 0 = g row 0 := by
  have hl := p.length_eq
  have me : g es 0 ∈ es := by rw [g_eq _ _ (by omega)]; exact List.getElem_mem _
  have m0 : g row 0 ∈ row := by rw [g_eq _ _ h0]; exact List.getElem_mem h0
  obtain ⟨j, hj, e⟩ := mem_g (p.symm.subset m0)
  have x1 := hp.min lexOrd j hj
  rw [e] at x1
  obtain ⟨q, hq, e2⟩ := List.getElem_of_mem (p.subset me)
  have x2 : lex (g es 0) (g row 0) = false := by
    by_cases hq0 : q = 0
    · subst hq0; rw [g_eq _ _ h0, e2]; exact lexOrd.irr _
    · have := List.pairwise_iff_getElem.1 up 0 q h0 hq (by omega)
      rw [g_eq _ _ h0, ← e2]; exact this
  rw [lex_false] at x1 x2
  exact di.eq (p.subset me) m0 (by omega)
theorem hp_least (h : HP w H v row n) (hk : 0 < row.length) :
    Calls Try.prog 12 #[.pointer (some ⟨H, 0, none⟩)] w fun r w' => r = .returned (.tuple #[.agg #[.int .i64 (g row 0).r, .int .i64 (g row 0).m], .bool true]) ∧ Apart [] w w' := by
  obtain ⟨es, h1, h2, h3⟩ := h.ex
  have := least_some w H v es n h1 (by rw [h3.length_eq]; exact hk)
  rwa [row_first h2 h3 h.up h.di hk] at this
theorem hp_all (h : HP w H v row n) (N : Nat) (hN : row.length = N) :
    Calls Try.prog 17 #[.pointer (some ⟨H, 0, none⟩)] w fun r w' => ∃ B, r = .returned (.slice (some ⟨B, 0, none⟩) N N) ∧ w'.ownsRow 0 28 2 (.slice (some ⟨B, 0, none⟩) N N) N (flat2 row) ∧ Apart [] w w' := by
  obtain ⟨es, h1, h2, h3⟩ := h.ex
  have K : Kind (.func (.func 20) #[] #[]) [] LexR := kindLex
  refine (all_at K w H v N n es h1 (by rw [h3.length_eq, hN])).mono ?_
  rintro r w' ⟨B, l, rfl, q⟩
  have hl : l = row := row_unique (h.di.perm (q.perm.trans h3)) (q.perm.trans h3) (q.srt lex lexFits h2).1 h.up
  subst hl
  exact ⟨B, rfl, q.own, q.ap⟩
end
/-- the thing that the document's number means -/
def cv (A : List E) (e : E) : E := ⟨e.r, (g A e.m.toNat).m, e.a⟩
structure Good (A : List E) (s : SD) : Prop where
  rel : s.row = s.rl.map (cv A)
  idx : ∀ e ∈ s.rl, 0 ≤ e.m ∧ e.m < A.length ∧ (g A e.m.toNat).r = e.r
  age : ∀ e ∈ s.rl, e.a < s.n
theorem up_map {A l : List E} (h : Up l) : Up (l.map (cv A)) := by
  unfold Up at *
  rw [List.pairwise_map]
  exact h.imp (fun h => h)
theorem dist_map {A l : List E} (h : Dist l) : Dist (l.map (cv A)) := by
  unfold Dist at *
  rw [List.pairwise_map]
  exact h.imp (fun h => h)
theorem g_map (A l : List E) (k : Nat) (hk : k < l.length) : g (l.map (cv A)) k = cv A (g l k) := by
  rw [g_eq _ _ (by simpa using hk), g_eq _ _ hk]; simp
theorem g_snoc_left (A : List E) (x : E) (k : Nat) (h : k < A.length) : g (A ++ [x]) k = g A k := g_left A x k h
theorem Good.grow {A : List E} {s : SD} (h : Good A s) (x : E) : Good (A ++ [x]) s := by
  have key : ∀ e ∈ s.rl, cv (A ++ [x]) e = cv A e := by
    intro e he
    obtain ⟨h1, h2, h3⟩ := h.idx e he
    unfold cv
    rw [g_snoc_left _ _ _ (by omega)]
  refine ⟨?_, fun e he => ?_, h.age⟩
  · rw [h.rel]; exact List.map_congr_left (fun e he => (key e he).symm)
  · obtain ⟨h1, h2, h3⟩ := h.idx e he
    exact ⟨h1, by simp; omega, by rw [g_snoc_left _ _ _ (by omega)]; exact h3⟩
theorem erase_map (f : E → E) (l : List E) : ∀ k, (l.map f).eraseIdx k = (l.eraseIdx k).map f := by
  induction l with
  | nil => intro k; simp
  | cons x l ih =>
    intro k
    match k with
    | 0 => rfl
    | k + 1 => simp [ih k]
theorem cons_erase (l : List E) : ∀ i, i < l.length → (g l i :: l.eraseIdx i).Perm l := by
  induction l with
  | nil => intro i hi; simp at hi
  | cons x l ih =>
    intro i hi
    match i with
    | 0 => exact List.Perm.refl _
    | i + 1 =>
      have h := ih i (by simpa using hi)
      exact (List.Perm.swap x (g l i) (l.eraseIdx i)).trans (h.cons x)
theorem Good.erase {A : List E} {s : SD} (h : Good A s) (k : Nat) (v lv : Value) (L : List E) : Good A { s with v := v, row := s.row.eraseIdx k, lv := lv, L := L, rl := s.rl.eraseIdx k } := by
  refine ⟨?_, fun e he => h.idx e (List.mem_of_mem_eraseIdx he), fun e he => h.age e (List.mem_of_mem_eraseIdx he)⟩
  show s.row.eraseIdx k = (s.rl.eraseIdx k).map (cv A)
  rw [h.rel, erase_map]
theorem perm_erase {L rl : List E} (p : L.Perm rl) (i k : Nat) (hi : i < L.length) (hk : k < rl.length) (e : g L i = g rl k) : (L.eraseIdx i).Perm (rl.eraseIdx k) := by
  have h1 := cons_erase L i hi
  have h2 := cons_erase rl k hk
  rw [e] at h1
  exact (h1.trans (p.trans h2.symm)).cons_inv
/-- a thing pushed -/
theorem Good.push {A : List E} {s : SD} (h : Good A s) (hd : Dist s.row) (hpL : s.L.Perm s.rl) (a b : Int) (v lv : Value) :
    Good (A ++ [⟨a, b, 0⟩]) { s with v := v, row := rowOf (s.row ++ [⟨a, b, s.n⟩]), n := s.n + 1, lv := lv, L := s.L ++ [⟨a, A.length, s.n⟩], rl := rowOf (s.rl ++ [⟨a, A.length, s.n⟩]) } := by
  have h' := h.grow ⟨a, b, 0⟩
  have hx : cv (A ++ [⟨a, b, 0⟩]) ⟨a, A.length, s.n⟩ = ⟨a, b, s.n⟩ := by
    simp [cv, g]
  have hdl : Dist (s.rl ++ [(⟨a, A.length, s.n⟩ : E)]) := by
    refine List.pairwise_append.2 ⟨?_, by simp, fun x hx y hy => by simp at hy; subst hy; have := h.age x hx; simp; omega⟩
    have := hd
    rw [h.rel] at this
    unfold Dist at this
    rw [List.pairwise_map] at this
    exact this.imp (fun h => h)
  have hm : ∀ e ∈ rowOf (s.rl ++ [(⟨a, A.length, s.n⟩ : E)]), e ∈ s.rl ∨ e = ⟨a, A.length, s.n⟩ := by
    intro e he
    have := (rowOf_perm _).subset he
    simpa using this
  refine ⟨?_, fun e he => ?_, fun e he => ?_⟩
  · show rowOf (s.row ++ [⟨a, b, s.n⟩]) = (rowOf (s.rl ++ [⟨a, A.length, s.n⟩])).map (cv (A ++ [⟨a, b, 0⟩]))
    refine row_unique ?_ ?_ (rowOf_up _) (up_map (rowOf_up _))
    · refine Dist.perm (rowOf_perm _) ?_
      have := dist_map (A := A ++ [⟨a, b, 0⟩]) hdl
      rw [List.map_append, ← h'.rel] at this
      simpa [hx] using this
    · refine (rowOf_perm _).trans (List.Perm.trans ?_ ((rowOf_perm _).map _).symm)
      rw [List.map_append, ← h'.rel]
      simp [hx]
  · rcases hm e he with he | rfl
    · exact h'.idx e he
    · refine ⟨by simp, by simp; omega, ?_⟩
      simp [g]
  · rcases hm e he with he | rfl
    · have := h.age e he; show e.a < ((s.n + 1 : Nat) : Int); omega
    · show (s.n : Int) < ((s.n + 1 : Nat) : Int); omega
end Go.Proofs.Ythfjkddninlbcaa.hp
