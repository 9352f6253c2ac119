import Derived.Test.YtopmhacnopfifaaPop
namespace Go.Proofs.Ytopmhacnopfifaa.hp
open Go.ChangeShapes Go.WideShapes Go.ChangeAt Go.RowKit
set_option linter.unusedVariables false
def LexR : E → E → Bool → Prop := fun x y b => b = lex x y
theorem lex_iff (x y : E) : lex x y = true ↔ x.r < y.r ∨ (x.r = y.r ∧ x.a < y.a) := by
  simp only [lex, Bool.or_eq_true, decide_eq_true_eq, Bool.and_eq_true, Bool.not_eq_true', decide_eq_false_iff_not]
  omega
theorem lex_false (x y : E) : lex x y = false ↔ ¬ (x.r < y.r ∨ (x.r = y.r ∧ x.a < y.a)) := by
  rw [← lex_iff]; simp
theorem lexOrd : Ord lex := ⟨fun x y h => by rw [lex_false]; rw [lex_iff] at h; omega, fun x y u h k => by rw [lex_false] at *; omega⟩
theorem lexFits : Fits LexR lex := ⟨lexOrd, fun x y b h => h⟩
theorem kindLex : Kind freshF [] LexR := kindFresh
theorem ids_new {w w' : World} {H : Nat} {v : Value} {X : List Nat} (h : Apart (ids H v) w w') (w0 : World) (hH : w0.heap.size ≤ H) (hv : ∀ k, v.ownBlock = some k → w0.heap.size ≤ k) : ∀ y ∈ ids H v, y ∈ X ∨ w0.heap.size ≤ y := by
  intro y hy
  simp [ids] at hy
  rcases hy with rfl | hy
  · exact .inr hH
  · exact .inr (hv y hy)
/-- what is no heap and no row of entries is as it was -/
def Kept (w w' : World) : Prop := ∀ (k : Nat) (cur : Array Value) (t : TypeId) (f : Nat × Nat), w.heap[k]? = some (.cells cur t f) → t ≠ 90 → t ≠ 92 → w'.heap[k]? = some (.cells cur t f)
theorem Kept.of {w w' : World} (a : Apart [] w w') : Kept w w' := fun k cur t f h _ _ => (a.block k (lt_of_heap h) (by simp)).trans h
theorem Kept.trans {a b c : World} (h : Kept a b) (k : Kept b c) : Kept a c := fun i cur t f h1 h2 h3 => k i cur t f (h i cur t f h1 h2 h3) h2 h3
theorem Kept.at {w w' : World} {H : Nat} {F : Value} {C : List (Nat × Int)} {v : Value} {es : List E} {n : Nat} (h : At w H F C v es n) (a : Apart (ids H v) w w') : Kept w w' := fun k cur t f h1 h2 h3 => by
  refine (a.block k (lt_of_heap h1) (fun m => ?_)).trans h1
  simp [ids] at m
  rcases m with rfl | m
  · rw [h.hh] at h1; simp at h1; exact h2 h1.2.1.symm
  · obtain ⟨c2, e⟩ := own_typ h.own m
    rw [h1] at e; simp at e; exact h3 e.2.1
/-- a heap of items that the call has made itself: new since w0 -/
structure Own (w0 w : World) (H : Nat) (es : List E) (n : Nat) : Prop where
  ex : ∃ v, At w H freshF [] v es n ∧ (∀ k, v.ownBlock = some k → w0.heap.size ≤ k)
  hp : Hp lex es
  hH : w0.heap.size ≤ H
theorem Own.kept {w0 w w' : World} {H : Nat} {es : List E} {n : Nat} (h : Own w0 w H es n) (a : Apart [] w w') : Own w0 w' H es n := by
  obtain ⟨v, h1, h2⟩ := h.ex
  exact ⟨⟨v, h1.kept0 a, h2⟩, h.hp, h.hH⟩
theorem own_fresh (w0 w : World) (hs : w0.heap.size ≤ w.heap.size) : Calls Try.prog 8 #[] w fun r w' => r = .returned (.pointer (some ⟨w.heap.size, 0, none⟩)) ∧ Own w0 w' w.heap.size [] 0 ∧ Apart [] w w' := by
  refine (fresh_at w).mono ?_
  rintro r w' ⟨rfl, h, a⟩
  exact ⟨rfl, ⟨⟨_, h, by simp [Value.ownBlock]⟩, Hp.nil _, hs⟩, a⟩
theorem own_push {w0 w : World} {H : Nat} {es : List E} {n : Nat} (h : Own w0 w H es n) (a b : Int) (hl : es.length < 4000000) (hn : n < 4000000) (w00 : World) (h00 : Apart [] w00 w) (hs0 : w0 = w00) :
    Calls Try.prog 10 #[.pointer (some ⟨H, 0, none⟩), .agg #[.int .i64 a, .int .i64 b]] w fun r w' => r = .returned (.tuple #[]) ∧ (∃ cs, Own w0 w' H cs (n + 1) ∧ cs.Perm (es ++ [⟨a, b, n⟩])) ∧ Apart [] w00 w' ∧ w.heap.size ≤ w'.heap.size ∧ Kept w w' := by
  subst hs0
  obtain ⟨v, h1, h2⟩ := h.ex
  refine (push_at kindLex w H v es n h1 a b hl hn).mono ?_
  rintro r w' ⟨rfl, ⟨v', cs, at', perm, hp, ap, nw⟩⟩
  refine ⟨rfl, ⟨cs, ⟨⟨v', at', ?_⟩, hp lex lexFits h.hp, h.hH⟩, perm⟩, h00.trans' ap (ids_new ap w0 h.hH h2), ap.size, .at h1 ap⟩
  intro k hk
  rcases nw with e | ⟨q, e, hq⟩
  · exact h2 k (e ▸ hk)
  · rw [e] at hk; simp at hk; subst hk; have := h00.size; omega
theorem own_len {w0 w : World} {H : Nat} {es : List E} {n : Nat} (h : Own w0 w H es n) (N : Nat) (hN : es.length = N) : Calls Try.prog 14 #[.pointer (some ⟨H, 0, none⟩)] w fun r w' => r = .returned (.int .i64 N) ∧ w' = w := by
  subst hN
  obtain ⟨v, h1, h2⟩ := h.ex
  exact len_at w H v es n h1
theorem own_pop {w0 w : World} {H : Nat} {es : List E} {n : Nat} (h : Own w0 w H es n) (h0 : 0 < es.length) (h00 : Apart [] w0 w) :
    Calls Try.prog 11 #[.pointer (some ⟨H, 0, none⟩)] w fun r w' => ∃ e cs, r = .returned (.tuple #[.agg #[.int .i64 e.r, .int .i64 e.m], .bool true]) ∧ Own w0 w' H cs n ∧ (e :: cs).Perm es ∧ (∀ y ∈ cs, lex y e = false) ∧ Apart [] w0 w' ∧ w.heap.size ≤ w'.heap.size ∧ Kept w w' := by
  obtain ⟨v, h1, h2⟩ := h.ex
  obtain ⟨G, cap, rfl, hcap⟩ := h1.shape h0
  refine (pop_at kindLex w H G cap es.length n es h1 rfl h0).mono ?_
  rintro r w' ⟨e, rfl, ⟨v', ps, rest, cs, hpl, at', p1, p2, p3, ap, nw⟩⟩
  obtain rfl : ps = [] := List.length_eq_zero_iff.1 hpl
  simp only [List.nil_append] at p1 p2 p3
  obtain ⟨q1, q2⟩ := p3 lex lexFits h.hp
  refine ⟨e, cs, rfl, ⟨⟨v', at', ?_⟩, q1, h.hH⟩, (p1.cons e).trans p2, fun y hy => q2.2 e (by simp) y (p1.subset hy), h00.trans' ap (ids_new ap w0 h.hH h2), ap.size, .at h1 ap⟩
  intro k hk
  rcases nw with e | ⟨q, e, hq⟩
  · exact h2 k (e ▸ hk)
  · rw [e] at hk; simp at hk; subst hk; have := h00.size; omega
theorem own_pop_none {w0 w : World} {H : Nat} {es : List E} {n : Nat} (h : Own w0 w H es n) (h0 : es.length = 0) :
    Calls Try.prog 11 #[.pointer (some ⟨H, 0, none⟩)] w fun r w' => r = .returned (.tuple #[.agg #[.int .i64 0, .int .i64 0], .bool false]) ∧ Apart [] w w' := by
  obtain ⟨v, h1, h2⟩ := h.ex
  exact pop_none w H v es n h1 h0
set_option maxHeartbeats 1000000 in
set_option maxRecDepth 100000 in
theorem able_ok (w : World) : Calls Try.prog 9 #[] w fun r w' => r = .returned (.bool true) ∧ Apart [] w w' := by
  have hnil : ∀ (a : Addr) (W : World), Sem.run Try.prog (binOp BinOp.eql 23 (Value.pointer (some a)) (Value.pointer none)) W = .ok (.bool false) W := fun a W => by first | rfl | (simp [binOp, Try.underlying23, go_sem]; done)
  go_enter Try.func9, Try.ntmps9
  go_wp2_with fail
  refine (own_fresh w w (Nat.le_refl _)).mono ?_
  rintro r w1 ⟨rfl, o1, a1⟩
  go_wp2_with fail
  refine (own_push o1 5 1 (by simp) (by omega) w a1 rfl).mono ?_
  rintro r w2 ⟨rfl, ⟨cs2, o2, p2⟩, a2, s2, _⟩
  go_wp2_with fail
  refine (own_push o2 2 2 (by rw [p2.length_eq]; simp) (by omega) w a2 rfl).mono ?_
  rintro r w3 ⟨rfl, ⟨cs3, o3, p3⟩, a3, s3, _⟩
  go_wp2_with fail
  have hp3 : cs3.Perm [⟨5, 1, 0⟩, ⟨2, 2, 1⟩] := p3.trans (p2.append_right _)
  refine (own_pop o3 (by rw [hp3.length_eq]; simp) a3).mono ?_
  rintro r w4 ⟨e, cs4, rfl, o4, p4, m4, a4, s4, _⟩
  have hp4 := p4.trans hp3
  have he : e = ⟨2, 2, 1⟩ ∧ cs4.length = 1 := by
    have hl := hp4.length_eq
    simp at hl
    refine ⟨?_, by omega⟩
    have hm : e ∈ [(⟨5, 1, 0⟩ : E), ⟨2, 2, 1⟩] := hp4.subset (by simp)
    simp at hm
    rcases hm with rfl | rfl
    · have : (⟨2, 2, 1⟩ : E) ∈ (⟨5, 1, 0⟩ : E) :: cs4 := hp4.symm.subset (by simp)
      simp at this
      have h1 := m4 _ this
      simp [lex] at h1
    · rfl
  obtain ⟨rfl, hl4⟩ := he
  have hL := own_len (o4.kept ((Apart.refl [] w4).alloc (.cells #[.int .i64 2, .int .i64 2] 31))) 1 hl4
  have HL4 : Hid (cs4.length = 1) := hl4
  clear hl4 m4 hp4 p4 hp3 p3 p2 o1 o2 o3
  go_wp2_with fail
  refine hL.mono ?_
  rintro r w5 ⟨rfl, rfl⟩
  go_wp2
  go_ret
  exact ⟨rfl, a4.alloc _⟩
end Go.Proofs.Ytopmhacnopfifaa.hp
