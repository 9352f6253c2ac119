import Derived.Test.YtopmhacnopfifaaQPop
namespace Go.Proofs.Ytopmhacnopfifaa.tm
open Go.ChangeShapes Go.WideShapes Go.ChangeAt Go.RowKit
set_option linter.unusedVariables false
def LexR : E → E → Bool → Prop := fun x y b => b = lex x y
theorem lex_iff (x y : E) : lex x y = true ↔ x.r < y.r ∨ (x.r = y.r ∧ x.a < y.a) := by
  simp only [lex, Bool.or_eq_true, decide_eq_true_eq, Bool.and_eq_true, Bool.not_eq_true', decide_eq_false_iff_not]
  omega
theorem lex_false (x y : E) : lex x y = false ↔ ¬ (x.r < y.r ∨ (x.r = y.r ∧ x.a < y.a)) := by
  rw [← lex_iff]; simp
theorem lexOrd : Ord lex := ⟨fun x y h => by rw [lex_false]; rw [lex_iff] at h; omega, fun x y u h k => by rw [lex_false] at *; omega⟩
theorem lexFits : Fits LexR lex := ⟨lexOrd, fun x y b h => h⟩
theorem kindLex : Kind freshF [] LexR := kindFresh
theorem ids_new {w w' : World} {H : Nat} {v : Value} {X : List Nat} (h : Apart (ids H v) w w') (w0 : World) (hH : w0.heap.size ≤ H) (hv : ∀ k, v.ownBlock = some k → w0.heap.size ≤ k) : ∀ y ∈ ids H v, y ∈ X ∨ w0.heap.size ≤ y := by
  intro y hy
  simp [ids] at hy
  rcases hy with rfl | hy
  · exact .inr hH
  · exact .inr (hv y hy)
/-- what is no heap and no row of entries is as it was -/
def Kept (w w' : World) : Prop := ∀ (k : Nat) (cur : Array Value) (t : TypeId) (f : Nat × Nat), w.heap[k]? = some (.cells cur t f) → t ≠ 102 → t ≠ 100 → w'.heap[k]? = some (.cells cur t f)
theorem Kept.of {w w' : World} (a : Apart [] w w') : Kept w w' := fun k cur t f h _ _ => (a.block k (lt_of_heap h) (by simp)).trans h
theorem Kept.trans {a b c : World} (h : Kept a b) (k : Kept b c) : Kept a c := fun i cur t f h1 h2 h3 => k i cur t f (h i cur t f h1 h2 h3) h2 h3
theorem Kept.at {w w' : World} {H : Nat} {F : Value} {C : List (Nat × Int)} {v : Value} {es : List E} {n : Nat} (h : At w H F C v es n) (a : Apart (ids H v) w w') : Kept w w' := fun k cur t f h1 h2 h3 => by
  refine (a.block k (lt_of_heap h1) (fun m => ?_)).trans h1
  simp [ids] at m
  rcases m with rfl | m
  · rw [h.hh] at h1; simp at h1; exact h2 h1.2.1.symm
  · obtain ⟨c2, e⟩ := own_typ h.own m
    rw [h1] at e; simp at e; exact h3 e.2.1
/-- a heap of items that the call has made itself: new since w0 -/
structure Own (w0 w : World) (H : Nat) (es : List E) (n : Nat) : Prop where
  ex : ∃ v, At w H freshF [] v es n ∧ (∀ k, v.ownBlock = some k → w0.heap.size ≤ k)
  hp : Hp lex es
  hH : w0.heap.size ≤ H
theorem Own.kept {w0 w w' : World} {H : Nat} {es : List E} {n : Nat} (h : Own w0 w H es n) (a : Apart [] w w') : Own w0 w' H es n := by
  obtain ⟨v, h1, h2⟩ := h.ex
  exact ⟨⟨v, h1.kept0 a, h2⟩, h.hp, h.hH⟩
theorem own_push {w0 w : World} {H : Nat} {es : List E} {n : Nat} (h : Own w0 w H es n) (a b b2 b3 : Int) (hl : es.length < 4000000) (hn : n < 4000000) (w00 : World) (h00 : Apart [] w00 w) (hs0 : w0 = w00) :
    Calls Try.prog 32 #[.pointer (some ⟨H, 0, none⟩), .agg #[.int .i64 a, .int .i64 b, .int .i64 b2, .int .i64 b3]] w fun r w' => r = .returned (.tuple #[]) ∧ (∃ cs, Own w0 w' H cs (n + 1) ∧ cs.Perm (es ++ [⟨a, b, b2, b3, n⟩])) ∧ Apart [] w00 w' ∧ w.heap.size ≤ w'.heap.size ∧ Kept w w' := by
  subst hs0
  obtain ⟨v, h1, h2⟩ := h.ex
  refine (push_at kindLex w H v es n h1 a b b2 b3 hl hn).mono ?_
  rintro r w' ⟨rfl, ⟨v', cs, at', perm, hp, ap, nw⟩⟩
  refine ⟨rfl, ⟨cs, ⟨⟨v', at', ?_⟩, hp lex lexFits h.hp, h.hH⟩, perm⟩, h00.trans' ap (ids_new ap w0 h.hH h2), ap.size, .at h1 ap⟩
  intro k hk
  rcases nw with e | ⟨q, e, hq⟩
  · exact h2 k (e ▸ hk)
  · rw [e] at hk; simp at hk; subst hk; have := h00.size; omega
theorem own_len {w0 w : World} {H : Nat} {es : List E} {n : Nat} (h : Own w0 w H es n) (N : Nat) (hN : es.length = N) : Calls Try.prog 40 #[.pointer (some ⟨H, 0, none⟩)] w fun r w' => r = .returned (.int .i64 N) ∧ w' = w := by
  subst hN
  obtain ⟨v, h1, h2⟩ := h.ex
  exact len_at w H v es n h1
end Go.Proofs.Ytopmhacnopfifaa.tm
