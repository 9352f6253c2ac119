import Derived.Test.YtopmhacnopfifaaQAble
import Derived.Test.YtopmhacnopfifaaQAll2
namespace Go.Proofs.Ytopmhacnopfifaa.tm
open Go.ChangeShapes Go.WideShapes Go.ChangeAt Go.RowKit
set_option linter.unusedVariables false
def Up (l : List E) : Prop := l.Pairwise (fun x y => lex y x = false)
def Dist (l : List E) : Prop := l.Pairwise (fun x y => x.a ≠ y.a)
theorem Dist.perm {l l' : List E} (h : l.Perm l') (p : Dist l') : Dist l := by
  unfold Dist at *
  exact (h.pairwise_iff (fun {a b} (h : a.a ≠ b.a) => h.symm)).2 p
theorem Dist.eq {l : List E} (h : Dist l) {x y : E} (hx : x ∈ l) (hy : y ∈ l) (e : x.a = y.a) : x = y := by
  obtain ⟨i, hi, rfl⟩ := List.getElem_of_mem hx
  obtain ⟨j, hj, rfl⟩ := List.getElem_of_mem hy
  have := List.pairwise_iff_getElem.1 h
  rcases Nat.lt_trichotomy i j with hlt | heq | hlt
  · exact absurd e (this i j hi hj hlt)
  · subst heq; rfl
  · exact absurd e.symm (this j i hj hi hlt)
theorem row_unique {l l' : List E} (d : Dist l) (h : l.Perm l') (p : Up l) (p' : Up l') : l = l' := by
  refine List.Perm.eq_of_pairwise (le := fun x y => lex y x = false) (fun a b ha hb h1 h2 => ?_) p p' h
  rw [lex_false] at h1 h2
  exact d.eq ha (h.symm.subset hb) (by omega)
def le (x y : E) : Bool := !lex y x
def rowOf (es : List E) : List E := es.mergeSort le
theorem rowOf_perm (es : List E) : (rowOf es).Perm es := List.mergeSort_perm es le
theorem rowOf_up (es : List E) : Up (rowOf es) := by
  have := List.pairwise_mergeSort (le := le) (fun a b c h k => by
    simp only [le, Bool.not_eq_true', lex_false] at *; omega) (fun a b => by
    cases h1 : lex b a
    · simp [le, h1]
    · simp [le, h1, lexOrd.asym _ _ h1]) es
  exact this.imp (fun h => by simpa [le] using h)
theorem Up.append {a b : List E} (h : Srt lex a b) (hb : Up b) : Up (a ++ b) := List.pairwise_append.2 ⟨h.1, hb, h.2⟩
theorem Srt.perm {A : E → E → Bool} {a b c : List E} (h : Srt A a b) (p : c.Perm b) : Srt A a c := ⟨h.1, fun x hx y hy => h.2 x hx y (p.subset hy)⟩
/-- the row behind a Take -/
theorem row_take {row ps rest cs : List E} {e : E} (d : Dist row) (up : Up row) (p : (ps ++ e :: rest).Perm row) (s : Srt lex (ps ++ [e]) rest) (pc : cs.Perm (ps ++ rest)) : e = g row ps.length ∧ cs.Perm (row.eraseIdx ps.length) := by
  have s2 : Srt lex (ps ++ [e]) (rowOf rest) := s.perm (rowOf_perm rest)
  have u : Up ((ps ++ [e]) ++ rowOf rest) := Up.append s2 (rowOf_up rest)
  have p2 : ((ps ++ [e]) ++ rowOf rest).Perm row := by
    refine List.Perm.trans ?_ p
    rw [List.append_assoc]
    exact List.Perm.append_left ps ((rowOf_perm rest).cons e)
  have he := row_unique (d.perm p2) p2 u up
  rw [← he]
  constructor
  · rw [g_eq _ _ (by simp)]; simp
  · rw [List.append_assoc, List.eraseIdx_append_of_length_le (Nat.le_refl _), Nat.sub_self]
    exact pc.trans (List.Perm.append_left ps (rowOf_perm rest).symm)
theorem Dist.erase {row : List E} (d : Dist row) (k : Nat) : Dist (row.eraseIdx k) := List.Pairwise.sublist (List.eraseIdx_sublist row k) d
theorem Up.erase {row : List E} (d : Up row) (k : Nat) : Up (row.eraseIdx k) := List.Pairwise.sublist (List.eraseIdx_sublist row k) d
/-- a heap by its row -/
structure HRow (w0 w : World) (H : Nat) (row : List E) (n : Nat) : Prop where
  ex : ∃ es, Own w0 w H es n ∧ es.Perm row
  up : Up row
  di : Dist row
theorem HRow.kept {w0 w w' : World} {H : Nat} {row : List E} {n : Nat} (h : HRow w0 w H row n) (a : Apart [] w w') : HRow w0 w' H row n := by
  obtain ⟨es, o, p⟩ := h.ex
  exact ⟨⟨es, o.kept a, p⟩, h.up, h.di⟩
theorem row_all {w0 w : World} {H : Nat} {row : List E} {n : Nat} (h : HRow w0 w H row n) (N : Nat) (hN : row.length = N) :
    Calls Try.prog 36 #[.pointer (some ⟨H, 0, none⟩)] w fun r w' => ∃ B, r = .returned (.slice (some ⟨B, 0, none⟩) N N) ∧ w'.ownsRow 0 46 4 (.slice (some ⟨B, 0, none⟩) N N) N (flat2 row) ∧ w.heap.size ≤ B ∧ Apart [] w w' := by
  obtain ⟨es, o, p⟩ := h.ex
  obtain ⟨v, h1, h2⟩ := o.ex
  have K : Kind (.func (.func 47) #[] #[]) [] LexR := kindLex
  refine (all_at K w H v N n es h1 (by rw [p.length_eq, hN])).mono ?_
  rintro r w' ⟨B, l, rfl, q⟩
  have hl : l = row := row_unique (h.di.perm (q.perm.trans p)) (q.perm.trans p) (q.srt lex lexFits o.hp).1 h.up
  subst hl
  exact ⟨B, rfl, q.own, q.hB, q.ap⟩
theorem row_len {w0 w : World} {H : Nat} {row : List E} {n : Nat} (h : HRow w0 w H row n) (N : Nat) (hN : row.length = N) : Calls Try.prog 40 #[.pointer (some ⟨H, 0, none⟩)] w fun r w' => r = .returned (.int .i64 N) ∧ w' = w := by
  obtain ⟨es, o, p⟩ := h.ex
  exact own_len o N (by rw [p.length_eq, hN])
theorem row_of_take {w0 w w' : World} {H : Nat} {row es : List E} {n k : Nat} {e : E} {v : Value} (h : HRow w0 w H row n) (o : Own w0 w H es n) (p : es.Perm row) (h00 : Apart [] w0 w) (h1 : At w H freshF [] v es n) (h2 : ∀ k, v.ownBlock = some k → w0.heap.size ≤ k) (t : TakePost LexR freshF [] w w' H v es k n e) :
    e = g row k ∧ HRow w0 w' H (row.eraseIdx k) n ∧ Apart [] w0 w' ∧ w.heap.size ≤ w'.heap.size ∧ Kept w w' ∧ Apart (ids H v) w w' := by
  obtain ⟨v', ps, rest, cs, hpl, at', p1, p2, p3, ap, nw⟩ := t.ex
  obtain ⟨q1, q2⟩ := p3 lex lexFits o.hp
  obtain ⟨r1, r2⟩ := row_take h.di h.up (p2.trans p) q2 p1
  subst hpl
  refine ⟨r1, ⟨⟨cs, ⟨⟨v', at', ?_⟩, q1, o.hH⟩, r2⟩, h.up.erase _, h.di.erase _⟩, h00.trans' ap (ids_new ap w0 o.hH h2), ap.size, .at h1 ap, ap⟩
  intro k hk
  rcases nw with e | ⟨q, e, hq⟩
  · exact h2 k (e ▸ hk)
  · rw [e] at hk; simp at hk; subst hk; have := h00.size; omega
theorem row_takes {w0 w : World} {H : Nat} {row : List E} {n : Nat} (h : HRow w0 w H row n) (h00 : Apart [] w0 w) (k : Nat) (hk : k < row.length) :
    Calls Try.prog 38 #[.pointer (some ⟨H, 0, none⟩), .int .i64 k] w fun r w' => r = .returned (.tuple #[.agg #[.int .i64 (g row k).r, .int .i64 (g row k).m, .int .i64 (g row k).k, .int .i64 (g row k).c], .bool true]) ∧ HRow w0 w' H (row.eraseIdx k) n ∧ Apart [] w0 w' ∧ w.heap.size ≤ w'.heap.size ∧ Kept w w' := by
  obtain ⟨es, o, p⟩ := h.ex
  obtain ⟨v, h1, h2⟩ := o.ex
  have hl := p.length_eq
  obtain ⟨G, cap, rfl, hcap⟩ := h1.shape (by omega)
  refine (take_at kindLex w H G cap es.length k n es h1 rfl (by omega)).mono ?_
  rintro r w' ⟨e, rfl, t⟩
  obtain ⟨rfl, r2, r3, r4, r5, _⟩ := row_of_take h o p h00 h1 h2 t
  exact ⟨rfl, r2, r3, r4, r5⟩
theorem row_take_none {w0 w : World} {H : Nat} {row : List E} {n : Nat} (h : HRow w0 w H row n) (k : Int) (hk : k < 0 ∨ (row.length : Int) ≤ k) :
    Calls Try.prog 38 #[.pointer (some ⟨H, 0, none⟩), .int .i64 k] w fun r w' => r = .returned (.tuple #[.agg #[.int .i64 0, .int .i64 0, .int .i64 0, .int .i64 0], .bool false]) ∧ Apart [] w w' := by
  obtain ⟨es, o, p⟩ := h.ex
  obtain ⟨v, h1, h2⟩ := o.ex
  have hl := p.length_eq
  exact take_none w H v es n h1 k (by omega)
end Go.Proofs.Ytopmhacnopfifaa.tm
