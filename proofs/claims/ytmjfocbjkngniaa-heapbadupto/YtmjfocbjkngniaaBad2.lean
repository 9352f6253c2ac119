import Derived.Test.YtmjfocbjkngniaaBad
import Derived.Test.YtmjfocbjkngniaaAll2
import Derived.Test.YtmjfocbjkngniaaSorts
namespace Go.Proofs.Ytmjfocbjkngniaa.hp
open Go.ChangeShapes Go.WideShapes Go.ChangeAt Go.RowKit
set_option linter.unusedVariables false
def AnyR : E → E → Bool → Prop := fun _ _ _ => True
theorem kindAny (B : Nat) (bits : Int) : Kind (badF B) [(B, bits)] AnyR := kindBad B bits
/-- a heap with that function, new since w0 -/
structure OwnB (B : Nat) (bits : Int) (w0 w : World) (H : Nat) (es : List E) (n : Nat) : Prop where
  ex : ∃ v, At w H (badF B) [(B, bits)] v es n ∧ (∀ k, v.ownBlock = some k → w0.heap.size ≤ k)
  hH : w0.heap.size ≤ H
section
variable {B : Nat} {bits : Int} {w0 w : World} {H : Nat} {es : List E} {n : Nat}
theorem OwnB.kept {w' : World} (h : OwnB B bits w0 w H es n) (a : Apart [] w w') : OwnB B bits w0 w' H es n := by
  obtain ⟨v, h1, h2⟩ := h.ex
  exact ⟨⟨v, h1.kept0 a, h2⟩, h.hH⟩
theorem bad_push (h : OwnB B bits w0 w H es n) (a b : Int) (hl : es.length < 4000000) (hn : n < 4000000) (h00 : Apart [] w0 w) :
    Calls Try.prog 11 #[.pointer (some ⟨H, 0, none⟩), .agg #[.int .i64 a, .int .i64 b]] w fun r w' => r = .returned (.tuple #[]) ∧ (∃ cs, OwnB B bits w0 w' H cs (n + 1) ∧ cs.Perm (es ++ [⟨a, b, n⟩])) ∧ Apart [] w0 w' := by
  obtain ⟨v, h1, h2⟩ := h.ex
  refine (push_at (kindAny B bits) w H v es n h1 a b hl hn).mono ?_
  rintro r w' ⟨rfl, ⟨v', cs, at', perm, hp, ap, nw⟩⟩
  refine ⟨rfl, ⟨cs, ⟨⟨v', at', ?_⟩, h.hH⟩, perm⟩, h00.trans' ap (ids_new ap w0 h.hH h2)⟩
  intro k hk
  rcases nw with e | ⟨q, e, hq⟩
  · exact h2 k (e ▸ hk)
  · rw [e] at hk; simp at hk; subst hk; have := h00.size; omega
theorem bad_len (h : OwnB B bits w0 w H es n) (N : Nat) (hN : es.length = N) : Calls Try.prog 14 #[.pointer (some ⟨H, 0, none⟩)] w fun r w' => r = .returned (.int .i64 N) ∧ w' = w := by
  subst hN
  obtain ⟨v, h1, h2⟩ := h.ex
  exact len_at w H v es n h1
theorem bad_all (h : OwnB B bits w0 w H es n) (N : Nat) (hN : es.length = N) : Calls Try.prog 17 #[.pointer (some ⟨H, 0, none⟩)] w fun r w' => ∃ b, r = .returned (.slice (some ⟨b, 0, none⟩) N N) ∧ Apart [] w w' := by
  obtain ⟨v, h1, h2⟩ := h.ex
  have K : Kind (.func (.func 16) #[] #[.pointer (some ⟨B, 0, none⟩)]) [(B, bits)] AnyR := kindAny B bits
  refine (all_at K w H v N n es h1 hN).mono ?_
  rintro r w' ⟨b, l, rfl, q⟩
  exact ⟨b, rfl, q.ap⟩
theorem bad_least (h : OwnB B bits w0 w H es n) (h0 : 0 < es.length) : Calls Try.prog 12 #[.pointer (some ⟨H, 0, none⟩)] w fun r w' => ∃ e : E, r = .returned (.tuple #[.agg #[.int .i64 e.r, .int .i64 e.m], .bool true]) ∧ Apart [] w w' := by
  obtain ⟨v, h1, h2⟩ := h.ex
  refine (least_some w H v es n h1 h0).mono ?_
  rintro r w' ⟨rfl, a⟩
  exact ⟨_, rfl, a⟩
theorem bad_of_take {w' : World} {k : Nat} {e : E} {v : Value} (h : OwnB B bits w0 w H es n) (h00 : Apart [] w0 w) (h1 : At w H (badF B) [(B, bits)] v es n) (h2 : ∀ k, v.ownBlock = some k → w0.heap.size ≤ k) (t : TakePost AnyR (badF B) [(B, bits)] w w' H v es k n e) :
    ∃ cs, OwnB B bits w0 w' H cs n ∧ (e :: cs).Perm es ∧ Apart [] w0 w' ∧ w.heap.size ≤ w'.heap.size ∧ Kept w w' := by
  obtain ⟨v', ps, rest, cs, hpl, at', p1, p2, p3, ap, nw⟩ := t.ex
  refine ⟨cs, ⟨⟨v', at', ?_⟩, h.hH⟩, ?_, h00.trans' ap (ids_new ap w0 h.hH h2), ap.size, .at h1 ap⟩
  · intro k hk
    rcases nw with e | ⟨q, e, hq⟩
    · exact h2 k (e ▸ hk)
    · rw [e] at hk; simp at hk; subst hk; have := h00.size; omega
  · exact (p1.cons e).trans (List.Perm.trans List.perm_middle.symm p2)
theorem bad_take (h : OwnB B bits w0 w H es n) (h00 : Apart [] w0 w) (k : Nat) (hk : k < es.length) :
    Calls Try.prog 18 #[.pointer (some ⟨H, 0, none⟩), .int .i64 k] w fun r w' => ∃ e cs, r = .returned (.tuple #[.agg #[.int .i64 e.r, .int .i64 e.m], .bool true]) ∧ OwnB B bits w0 w' H cs n ∧ (e :: cs).Perm es ∧ Apart [] w0 w' ∧ w.heap.size ≤ w'.heap.size ∧ Kept w w' := by
  obtain ⟨v, h1, h2⟩ := h.ex
  obtain ⟨G, cap, rfl, hcap⟩ := h1.shape (by omega)
  refine (take_at (kindAny B bits) w H G cap es.length k n es h1 rfl hk).mono ?_
  rintro r w' ⟨e, rfl, t⟩
  obtain ⟨cs, q⟩ := bad_of_take h h00 h1 h2 t
  exact ⟨e, cs, rfl, q⟩
theorem bad_pop (h : OwnB B bits w0 w H es n) (h00 : Apart [] w0 w) (hk : 0 < es.length) :
    Calls Try.prog 13 #[.pointer (some ⟨H, 0, none⟩)] w fun r w' => ∃ e cs, r = .returned (.tuple #[.agg #[.int .i64 e.r, .int .i64 e.m], .bool true]) ∧ OwnB B bits w0 w' H cs n ∧ (e :: cs).Perm es ∧ Apart [] w0 w' ∧ w.heap.size ≤ w'.heap.size ∧ Kept w w' := by
  obtain ⟨v, h1, h2⟩ := h.ex
  obtain ⟨G, cap, rfl, hcap⟩ := h1.shape (by omega)
  refine (pop_at (kindAny B bits) w H G cap es.length n es h1 rfl hk).mono ?_
  rintro r w' ⟨e, rfl, t⟩
  obtain ⟨cs, q⟩ := bad_of_take h h00 h1 h2 t
  exact ⟨e, cs, rfl, q⟩
theorem bad_take_none (h : OwnB B bits w0 w H es n) (k : Int) (hk : k < 0 ∨ (es.length : Int) ≤ k) :
    Calls Try.prog 18 #[.pointer (some ⟨H, 0, none⟩), .int .i64 k] w fun r w' => r = .returned (.tuple #[.agg #[.int .i64 0, .int .i64 0], .bool false]) ∧ Apart [] w w' := by
  obtain ⟨v, h1, h2⟩ := h.ex
  exact take_none w H v es n h1 k hk
theorem bad_pop_none (h : OwnB B bits w0 w H es n) (hk : es.length = 0) :
    Calls Try.prog 13 #[.pointer (some ⟨H, 0, none⟩)] w fun r w' => r = .returned (.tuple #[.agg #[.int .i64 0, .int .i64 0], .bool false]) ∧ Apart [] w w' := by
  obtain ⟨v, h1, h2⟩ := h.ex
  exact pop_none w H v es n h1 hk
end
/-- between two rounds -/
structure BInv (fs : Nat → Int) (B : Nat) (bits : Int) (w wr : World) (H S N L : Nat) (cs : List E) (bs : List Bool) : Prop where
  own : OwnB B bits w wr H cs N
  ap : Apart [] w wr
  hl : cs.length = L
  mem : ∀ e ∈ cs, ∃ k, k < N ∧ e = ent fs k
  nd : cs.Pairwise (fun x y => x.a ≠ y.a)
  hS : wr.heap[S]? = some (.cells (bools bs).toArray 4 (0, 0))
  bl : bs.length = N
  un : ∀ e ∈ cs, bs.getD e.a.toNat false = false
  hS0 : w.heap.size ≤ S
theorem BInv.drewN {fs : Nat → Int} {B : Nat} {bits : Int} {w wr : World} {H S N L : Nat} {cs : List E} {bs : List Bool} (h : BInv fs B bits w wr H S N L cs bs) (q : Nat) : BInv fs B bits w (wr.drewN q) H S N L cs bs :=
  { h with own := h.own.kept ((Apart.refl _ _).drewN q), ap := h.ap.drewN q, hS := h.hS }
/-- the k-th one is out: the world w2 holds the row S as it was, and the block X is x's -/
theorem BInv.step {fs : Nat → Int} {B : Nat} {bits : Int} {w wr w2 : World} {H S N L X : Nat} {cs cs2 : List E} {bs : List Bool} (h : BInv fs B bits w wr H S N (L + 1) cs bs) (k : Nat) (hk : k < N) (own2 : OwnB B bits w w2 H cs2 N) (ap2 : Apart [] w w2) (perm : (ent fs k :: cs2).Perm cs)
    (hS2 : w2.heap[S]? = some (.cells (bools bs).toArray 4 (0, 0))) (a b : Value) (hX : w2.heap[X]? = some (.cells #[a, b] 28 (0, 0))) (hX0 : w.heap.size ≤ X) :
    BInv fs B bits w (((w2.setCell ⟨X, 0, none⟩ (.int .i64 (fs k))).setCell ⟨X, 1, none⟩ (.int .i64 k)).setCell ⟨S, k, none⟩ (.bool true)) H S N L cs2 (bs.set k true) ∧
      ((w2.setCell ⟨X, 0, none⟩ (.int .i64 (fs k))).setCell ⟨X, 1, none⟩ (.int .i64 k)).heap[S]? = some (.cells (bools bs).toArray 4 (0, 0)) ∧ bs[k]? = some false := by
  have nd1 := pw_perm perm h.nd
  rw [List.pairwise_cons] at nd1
  have hne : S ≠ X := by
    rintro rfl
    rw [hS2] at hX; simp at hX
  have hkb : k < bs.length := by rw [h.bl]; exact hk
  have hun := h.un (ent fs k) (perm.subset (by simp))
  have aS : Apart [X, S] w2 (((w2.setCell ⟨X, 0, none⟩ (.int .i64 (fs k))).setCell ⟨X, 1, none⟩ (.int .i64 k)).setCell ⟨S, k, none⟩ (.bool true)) := (((Apart.refl _ _).setCell (by simp) _).setCell (by simp) _).setCell (by simp) _
  have s1 := (heap_setCell_other w2 ⟨X, 0, none⟩ S (.int .i64 (fs k)) (fun e => hne e)).trans hS2
  have s2 := (heap_setCell_other (w2.setCell ⟨X, 0, none⟩ (.int .i64 (fs k))) ⟨X, 1, none⟩ S (.int .i64 k) (fun e => hne e)).trans s1
  have s3 := heap_setCell_same _ S k _ 4 (.bool true) s2
  obtain ⟨v, at2, hv⟩ := own2.ex
  refine ⟨⟨⟨⟨v, at2.kept aS ?_, hv⟩, own2.hH⟩, ap2.trans' aS (by simp; exact ⟨hX0, h.hS0⟩), ?_, fun e he => h.mem e (perm.subset (by simp [he])), nd1.2, ?_, by simp [h.bl], ?_, h.hS0⟩, s2, ?_⟩
  · intro q hq
    simp at hq
    refine ⟨?_, ?_, ?_⟩
    · rintro rfl
      rcases hq with rfl | rfl
      · rw [at2.hh] at hX; simp at hX
      · rw [at2.hh] at hS2; simp at hS2
    · intro e
      obtain ⟨cur, h2⟩ := own_typ at2.own e
      rcases hq with rfl | rfl
      · rw [hX] at h2; simp at h2
      · rw [hS2] at h2; simp at h2
    · intro c hc e
      have h3 := at2.hc c hc
      rw [e] at h3
      rcases hq with rfl | rfl
      · rw [hX] at h3; simp at h3
      · rw [hS2] at h3; simp at h3
  · have := perm.length_eq
    rw [h.hl] at this
    simp at this
    omega
  · rw [s3]; simp [bools]
  · intro e he
    have h1 := h.un e (perm.subset (by simp [he]))
    have h2 := nd1.1 e he
    obtain ⟨q, hq, rfl⟩ := h.mem e (perm.subset (by simp [he]))
    simp [ent] at h1 h2 ⊢
    have : k ≠ q := by omega
    simp only [List.getElem?_set, this, if_false]
    exact h1
  · simp [ent, hkb] at hun
    rw [List.getElem?_eq_getElem hkb, hun]
end Go.Proofs.Ytmjfocbjkngniaa.hp
