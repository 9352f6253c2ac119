import Derived.Test.YtopmhacnopfifaaIAll2
import Derived.Test.YtopmhacnopfifaaNAll2
import Derived.Test.YtopmhacnopfifaaCAhead
import Derived.Test.YtopmhacnopfifaaQTake2
import Derived.Test.YtopmhacnopfifaaQAll2
import Derived.Test.YtopmhacnopfifaaAble
namespace Go.Proofs.Ytopmhacnopfifaa.kk
open Go.ChangeShapes Go.WideShapes Go.ChangeAt Go.RowKit
set_option linter.unusedVariables false
theorem of_im {X : List Nat} {w w' : World} (h : im.Apart X w w') : im.Apart X w w' := h
theorem to_im {X : List Nat} {w w' : World} (h : im.Apart X w w') : im.Apart X w w' := h
theorem of_nm {X : List Nat} {w w' : World} (h : nm.Apart X w w') : im.Apart X w w' := ⟨h.os, h.tape, h.output, h.size, h.block⟩
theorem to_nm {X : List Nat} {w w' : World} (h : im.Apart X w w') : nm.Apart X w w' := ⟨h.os, h.tape, h.output, h.size, h.block⟩
theorem of_tm {X : List Nat} {w w' : World} (h : tm.Apart X w w') : im.Apart X w w' := ⟨h.os, h.tape, h.output, h.size, h.block⟩
theorem to_tm {X : List Nat} {w w' : World} (h : im.Apart X w w') : tm.Apart X w w' := ⟨h.os, h.tape, h.output, h.size, h.block⟩
theorem of_hp {X : List Nat} {w w' : World} (h : hp.Apart X w w') : im.Apart X w w' := ⟨h.os, h.tape, h.output, h.size, h.block⟩
def Typ (w : World) (k : Nat) (t : TypeId) : Prop := ∃ cur f, w.heap[k]? = some (.cells cur t f)
/-- only blocks of these types, new since w0, were written -/
structure Mv (w0 : World) (ts : List TypeId) (w w' : World) : Prop where
  ex : ∃ X, im.Apart X w w' ∧ ∀ k ∈ X, w0.heap.size ≤ k ∧ ∃ t ∈ ts, Typ w k t
theorem Mv.of {w0 w w' : World} {ts : List TypeId} (a : im.Apart [] w w') : Mv w0 ts w w' := ⟨[], a, by simp⟩
theorem Mv.ap {w0 w w' : World} {ts : List TypeId} (m : Mv w0 ts w w') (h : im.Apart [] w0 w) : im.Apart [] w0 w' := by
  obtain ⟨X, a, hX⟩ := m.ex
  exact h.trans' a (fun y hy => .inr (hX y hy).1)
theorem Mv.block {w0 w w' : World} {ts : List TypeId} (m : Mv w0 ts w w') {k : Nat} {cur : Array Value} {t : TypeId} {f : Nat × Nat} (h : w.heap[k]? = some (.cells cur t f)) (ht : t ∉ ts) : w'.heap[k]? = some (.cells cur t f) := by
  obtain ⟨X, a, hX⟩ := m.ex
  refine (a.block k (im.lt_of_heap h) (fun hk => ?_)).trans h
  obtain ⟨_, t', ht', cur', f', e⟩ := hX k hk
  rw [h] at e; simp at e
  exact ht (e.2.1 ▸ ht')
theorem Mv.row {w0 w w' : World} {ts : List TypeId} (m : Mv w0 ts w w') {e : TypeId} {size : Nat} {v : Value} {n : Nat} {xs : List Value} (h : w.ownsRow 0 e size v n xs) (ht : e ∉ ts) : w'.ownsRow 0 e size v n xs := by
  obtain ⟨X, a, hX⟩ := m.ex
  refine im.own_apart h a (fun k hk hm => ?_)
  obtain ⟨_, t', ht', cur', f', e1⟩ := hX k hm
  obtain ⟨c2, e3⟩ := im.own_typ h hk
  rw [e3] at e1; simp at e1
  exact ht (e1.2.1 ▸ ht')
theorem Mv.size {w0 w w' : World} {ts : List TypeId} (m : Mv w0 ts w w') : w.heap.size ≤ w'.heap.size := by
  obtain ⟨X, a, hX⟩ := m.ex
  exact a.size

/-- a heap of the call's own (im) -/
structure HA (w0 w : World) (H : Nat) (es : List im.E) (n : Nat) : Prop where
  ex : ∃ v, im.At w H im.freshF [] v es n ∧ (∀ k, v.ownBlock = some k → w0.heap.size ≤ k)
  hp : im.Hp im.lex es
  hH : w0.heap.size ≤ H
theorem HA.mv {w0 w w' : World} {H : Nat} {es : List im.E} {n : Nat} {ts : List TypeId} (h : HA w0 w H es n) (m : Mv w0 ts w w') (t1 : 107 ∉ ts) (t2 : 113 ∉ ts) : HA w0 w' H es n := by
  obtain ⟨v, h1, h2⟩ := h.ex
  obtain ⟨X, a, hX⟩ := m.ex
  refine ⟨⟨v, h1.kept (to_im a) (fun k hk => ⟨?_, ?_, by simp⟩), h2⟩, h.hp, h.hH⟩
  · obtain ⟨_, t, ht, cur, f, e⟩ := hX k hk
    rintro rfl
    rw [h1.hh] at e; simp at e
    exact t1 (e.2.1 ▸ ht)
  · obtain ⟨_, t, ht, cur, f, e⟩ := hX k hk
    intro e2
    obtain ⟨c2, e3⟩ := im.own_typ h1.own e2
    rw [e3] at e; simp at e
    exact t2 (e.2.1 ▸ ht)
theorem HA.ids {w0 w w' : World} {H : Nat} {v : Value} {es : List im.E} {n : Nat} (h1 : im.At w H im.freshF [] v es n) (h2 : ∀ k, v.ownBlock = some k → w0.heap.size ≤ k) (hH : w0.heap.size ≤ H) (a : im.Apart (im.ids H v) w w') : Mv w0 [107, 113] w w' := by
  refine ⟨_, of_im a, fun k hk => ?_⟩
  simp [im.ids] at hk
  rcases hk with rfl | hk
  · exact ⟨hH, 107, by simp, _, _, h1.hh⟩
  · obtain ⟨c2, e3⟩ := im.own_typ h1.own hk
    exact ⟨h2 k hk, 113, by simp, _, _, e3⟩

/-- a heap of the call's own (nm) -/
structure HB (w0 w : World) (H : Nat) (es : List nm.E) (n : Nat) : Prop where
  ex : ∃ v, nm.At w H nm.freshF [] v es n ∧ (∀ k, v.ownBlock = some k → w0.heap.size ≤ k)
  hp : nm.Hp nm.lex es
  hH : w0.heap.size ≤ H
theorem HB.mv {w0 w w' : World} {H : Nat} {es : List nm.E} {n : Nat} {ts : List TypeId} (h : HB w0 w H es n) (m : Mv w0 ts w w') (t1 : 110 ∉ ts) (t2 : 117 ∉ ts) : HB w0 w' H es n := by
  obtain ⟨v, h1, h2⟩ := h.ex
  obtain ⟨X, a, hX⟩ := m.ex
  refine ⟨⟨v, h1.kept (to_nm a) (fun k hk => ⟨?_, ?_, by simp⟩), h2⟩, h.hp, h.hH⟩
  · obtain ⟨_, t, ht, cur, f, e⟩ := hX k hk
    rintro rfl
    rw [h1.hh] at e; simp at e
    exact t1 (e.2.1 ▸ ht)
  · obtain ⟨_, t, ht, cur, f, e⟩ := hX k hk
    intro e2
    obtain ⟨c2, e3⟩ := nm.own_typ h1.own e2
    rw [e3] at e; simp at e
    exact t2 (e.2.1 ▸ ht)
theorem HB.ids {w0 w w' : World} {H : Nat} {v : Value} {es : List nm.E} {n : Nat} (h1 : nm.At w H nm.freshF [] v es n) (h2 : ∀ k, v.ownBlock = some k → w0.heap.size ≤ k) (hH : w0.heap.size ≤ H) (a : nm.Apart (nm.ids H v) w w') : Mv w0 [110, 117] w w' := by
  refine ⟨_, of_nm a, fun k hk => ?_⟩
  simp [nm.ids] at hk
  rcases hk with rfl | hk
  · exact ⟨hH, 110, by simp, _, _, h1.hh⟩
  · obtain ⟨c2, e3⟩ := nm.own_typ h1.own hk
    exact ⟨h2 k hk, 117, by simp, _, _, e3⟩

/-- a heap of the call's own (tm) -/
structure HC (w0 w : World) (H : Nat) (es : List tm.E) (n : Nat) : Prop where
  ex : ∃ v, tm.At w H tm.callF [] v es n ∧ (∀ k, v.ownBlock = some k → w0.heap.size ≤ k)
  hp : tm.Hp tm.lexC es
  hH : w0.heap.size ≤ H
theorem HC.mv {w0 w w' : World} {H : Nat} {es : List tm.E} {n : Nat} {ts : List TypeId} (h : HC w0 w H es n) (m : Mv w0 ts w w') (t1 : 102 ∉ ts) (t2 : 100 ∉ ts) : HC w0 w' H es n := by
  obtain ⟨v, h1, h2⟩ := h.ex
  obtain ⟨X, a, hX⟩ := m.ex
  refine ⟨⟨v, h1.kept (to_tm a) (fun k hk => ⟨?_, ?_, by simp⟩), h2⟩, h.hp, h.hH⟩
  · obtain ⟨_, t, ht, cur, f, e⟩ := hX k hk
    rintro rfl
    rw [h1.hh] at e; simp at e
    exact t1 (e.2.1 ▸ ht)
  · obtain ⟨_, t, ht, cur, f, e⟩ := hX k hk
    intro e2
    obtain ⟨c2, e3⟩ := tm.own_typ h1.own e2
    rw [e3] at e; simp at e
    exact t2 (e.2.1 ▸ ht)
theorem HC.ids {w0 w w' : World} {H : Nat} {v : Value} {es : List tm.E} {n : Nat} (h1 : tm.At w H tm.callF [] v es n) (h2 : ∀ k, v.ownBlock = some k → w0.heap.size ≤ k) (hH : w0.heap.size ≤ H) (a : tm.Apart (tm.ids H v) w w') : Mv w0 [102, 100] w w' := by
  refine ⟨_, of_tm a, fun k hk => ?_⟩
  simp [tm.ids] at hk
  rcases hk with rfl | hk
  · exact ⟨hH, 102, by simp, _, _, h1.hh⟩
  · obtain ⟨c2, e3⟩ := tm.own_typ h1.own hk
    exact ⟨h2 k hk, 100, by simp, _, _, e3⟩

theorem ilex_false (x y : im.E) : im.lex x y = false ↔ ¬ (y.r < x.r ∨ (x.r = y.r ∧ x.a < y.a)) := by
  simp only [im.lex, Bool.or_eq_false_iff, decide_eq_false_iff_not, Bool.and_eq_false_iff, Bool.not_eq_false', decide_eq_true_eq]
  omega
theorem nlex_false (x y : nm.E) : nm.lex x y = false ↔ ¬ (x.r.size < y.r.size ∨ (x.r.size = y.r.size ∧ x.a < y.a)) := by
  simp only [nm.lex, Bool.or_eq_false_iff, decide_eq_false_iff_not, Bool.and_eq_false_iff, Bool.not_eq_false', decide_eq_true_eq]
  omega
theorem tlex_false (x y : tm.E) : tm.lexC x y = false ↔ ¬ (x.c < y.c ∨ (x.c = y.c ∧ x.a < y.a)) := by
  simp only [tm.lexC, Bool.or_eq_false_iff, decide_eq_false_iff_not, Bool.and_eq_false_iff, Bool.not_eq_false', decide_eq_true_eq]
  omega
theorem ilex_ord : im.Ord im.lex := ⟨fun x y h => by
  have : ¬ im.lex x y = false := by rw [h]; simp
  rw [ilex_false] at this; rw [ilex_false]; omega, fun x y u h k => by rw [ilex_false] at *; omega⟩
theorem nlex_ord : nm.Ord nm.lex := ⟨fun x y h => by
  have : ¬ nm.lex x y = false := by rw [h]; simp
  rw [nlex_false] at this; rw [nlex_false]; omega, fun x y u h k => by rw [nlex_false] at *; omega⟩
theorem tlex_ord : tm.Ord tm.lexC := ⟨fun x y h => by
  have : ¬ tm.lexC x y = false := by rw [h]; simp
  rw [tlex_false] at this; rw [tlex_false]; omega, fun x y u h k => by rw [tlex_false] at *; omega⟩
theorem ifits : im.Fits (fun x y b => b = im.lex x y) im.lex := ⟨ilex_ord, fun x y b h => h⟩
theorem nfits : nm.Fits (fun x y b => b = nm.lex x y) nm.lex := ⟨nlex_ord, fun x y b h => h⟩
theorem tfits : tm.Fits (fun x y b => b = tm.lexC x y) tm.lexC := ⟨tlex_ord, fun x y b h => h⟩

theorem HA.push {w0 w : World} {H : Nat} {es : List im.E} {n : Nat} (h : HA w0 w H es n) (a : Int) (hl : es.length < 4000000) (hn : n < 4000000) (hw : w0.heap.size ≤ w.heap.size) :
    Calls Try.prog 31 #[.pointer (some ⟨H, 0, none⟩), .int .i64 a] w fun r w' => r = .returned (.tuple #[]) ∧ Mv w0 [107, 113] w w' ∧ ∃ cs, HA w0 w' H cs (n + 1) ∧ cs.Perm (es ++ [⟨a, n⟩]) := by
  obtain ⟨v, h1, h2⟩ := h.ex
  refine (im.push_at im.kindFresh w H v es n h1 a hl hn).mono ?_
  rintro r w' ⟨rfl, ⟨v', cs, at', perm, hp, ap, nw⟩⟩
  refine ⟨rfl, HA.ids h1 h2 h.hH ap, cs, ⟨⟨v', at', fun k hk => ?_⟩, hp _ ifits h.hp, h.hH⟩, perm⟩
  rcases nw with e | ⟨q, e, hq⟩
  · exact h2 k (e ▸ hk)
  · rw [e] at hk; simp at hk; subst hk; omega

theorem HB.push {w0 w : World} {H : Nat} {es : List nm.E} {n : Nat} (h : HB w0 w H es n) (a : ByteArray) (b : nm.Sl) (hl : es.length < 4000000) (hn : n < 4000000) (hw : w0.heap.size ≤ w.heap.size) :
    Calls Try.prog 33 #[.pointer (some ⟨H, 0, none⟩), .agg #[.string a, .slice b.p b.n b.c]] w fun r w' => r = .returned (.tuple #[]) ∧ Mv w0 [110, 117] w w' ∧ ∃ cs, HB w0 w' H cs (n + 1) ∧ cs.Perm (es ++ [⟨a, b, n⟩]) := by
  obtain ⟨v, h1, h2⟩ := h.ex
  refine (nm.push_at nm.kindFresh w H v es n h1 a b hl hn).mono ?_
  rintro r w' ⟨rfl, ⟨v', cs, at', perm, hp, ap, nw⟩⟩
  refine ⟨rfl, HB.ids h1 h2 h.hH ap, cs, ⟨⟨v', at', fun k hk => ?_⟩, hp _ nfits h.hp, h.hH⟩, perm⟩
  rcases nw with e | ⟨q, e, hq⟩
  · exact h2 k (e ▸ hk)
  · rw [e] at hk; simp at hk; subst hk; omega

theorem HC.push {w0 w : World} {H : Nat} {es : List tm.E} {n : Nat} (h : HC w0 w H es n) (a b b2 b3 : Int) (hl : es.length < 4000000) (hn : n < 4000000) (hw : w0.heap.size ≤ w.heap.size) :
    Calls Try.prog 32 #[.pointer (some ⟨H, 0, none⟩), .agg #[.int .i64 a, .int .i64 b, .int .i64 b2, .int .i64 b3]] w fun r w' => r = .returned (.tuple #[]) ∧ Mv w0 [102, 100] w w' ∧ ∃ cs, HC w0 w' H cs (n + 1) ∧ cs.Perm (es ++ [⟨a, b, b2, b3, n⟩]) := by
  obtain ⟨v, h1, h2⟩ := h.ex
  refine (tm.push_at tm.kindCall w H v es n h1 a b b2 b3 hl hn).mono ?_
  rintro r w' ⟨rfl, ⟨v', cs, at', perm, hp, ap, nw⟩⟩
  refine ⟨rfl, HC.ids h1 h2 h.hH ap, cs, ⟨⟨v', at', fun k hk => ?_⟩, hp _ tfits h.hp, h.hH⟩, perm⟩
  rcases nw with e | ⟨q, e, hq⟩
  · exact h2 k (e ▸ hk)
  · rw [e] at hk; simp at hk; subst hk; omega

theorem HA.all {w0 w : World} {H : Nat} {es : List im.E} {n : Nat} (h : HA w0 w H es n) (N : Nat) (hN : es.length = N) :
    Calls Try.prog 34 #[.pointer (some ⟨H, 0, none⟩)] w fun r w' => ∃ B l, r = .returned (.slice (some ⟨B, 0, none⟩) N N) ∧ w'.ownsRow 0 3 1 (.slice (some ⟨B, 0, none⟩) N N) N (im.flat2 l) ∧ l.Perm es ∧ l.Pairwise (fun x y => im.lex y x = false) ∧ im.Apart [] w w' := by
  obtain ⟨v, h1, h2⟩ := h.ex
  refine (im.all_at im.kindFresh w H v N n es h1 hN).mono ?_
  rintro r w' ⟨B, l, rfl, q⟩
  exact ⟨B, l, rfl, q.own, q.perm, (q.srt _ ifits h.hp).1, of_im q.ap⟩
theorem HA.len {w0 w : World} {H : Nat} {es : List im.E} {n : Nat} (h : HA w0 w H es n) (N : Nat) (hN : es.length = N) : Calls Try.prog 39 #[.pointer (some ⟨H, 0, none⟩)] w fun r w' => r = .returned (.int .i64 N) ∧ w' = w := by
  subst hN
  obtain ⟨v, h1, h2⟩ := h.ex
  exact im.len_at w H v es n h1

theorem HB.all {w0 w : World} {H : Nat} {es : List nm.E} {n : Nat} (h : HB w0 w H es n) (N : Nat) (hN : es.length = N) :
    Calls Try.prog 35 #[.pointer (some ⟨H, 0, none⟩)] w fun r w' => ∃ B l, r = .returned (.slice (some ⟨B, 0, none⟩) N N) ∧ w'.ownsRow 0 72 2 (.slice (some ⟨B, 0, none⟩) N N) N (nm.flat2 l) ∧ l.Perm es ∧ l.Pairwise (fun x y => nm.lex y x = false) ∧ im.Apart [] w w' := by
  obtain ⟨v, h1, h2⟩ := h.ex
  refine (nm.all_at nm.kindFresh w H v N n es h1 hN).mono ?_
  rintro r w' ⟨B, l, rfl, q⟩
  exact ⟨B, l, rfl, q.own, q.perm, (q.srt _ nfits h.hp).1, of_nm q.ap⟩
theorem HB.len {w0 w : World} {H : Nat} {es : List nm.E} {n : Nat} (h : HB w0 w H es n) (N : Nat) (hN : es.length = N) : Calls Try.prog 41 #[.pointer (some ⟨H, 0, none⟩)] w fun r w' => r = .returned (.int .i64 N) ∧ w' = w := by
  subst hN
  obtain ⟨v, h1, h2⟩ := h.ex
  exact nm.len_at w H v es n h1

theorem HC.all {w0 w : World} {H : Nat} {es : List tm.E} {n : Nat} (h : HC w0 w H es n) (N : Nat) (hN : es.length = N) :
    Calls Try.prog 36 #[.pointer (some ⟨H, 0, none⟩)] w fun r w' => ∃ B l, r = .returned (.slice (some ⟨B, 0, none⟩) N N) ∧ w'.ownsRow 0 46 4 (.slice (some ⟨B, 0, none⟩) N N) N (tm.flat2 l) ∧ l.Perm es ∧ l.Pairwise (fun x y => tm.lexC y x = false) ∧ im.Apart [] w w' := by
  obtain ⟨v, h1, h2⟩ := h.ex
  refine (tm.all_at tm.kindCall w H v N n es h1 hN).mono ?_
  rintro r w' ⟨B, l, rfl, q⟩
  exact ⟨B, l, rfl, q.own, q.perm, (q.srt _ tfits h.hp).1, of_tm q.ap⟩
theorem HC.len {w0 w : World} {H : Nat} {es : List tm.E} {n : Nat} (h : HC w0 w H es n) (N : Nat) (hN : es.length = N) : Calls Try.prog 40 #[.pointer (some ⟨H, 0, none⟩)] w fun r w' => r = .returned (.int .i64 N) ∧ w' = w := by
  subst hN
  obtain ⟨v, h1, h2⟩ := h.ex
  exact tm.len_at w H v es n h1

/-- a row is told by its things, where no two are of one age -/
theorem uniq {α : Type} {A : α → α → Bool} {age : α → Int} (hA : ∀ x y, A x y = false → A y x = false → age x = age y) {l l' : List α} (d : l.Pairwise (fun x y => age x ≠ age y)) (h : l.Perm l') (p : l.Pairwise (fun x y => A y x = false)) (p' : l'.Pairwise (fun x y => A y x = false)) : l = l' := by
  have deq : ∀ x y, x ∈ l → y ∈ l → age x = age y → x = y := by
    intro x y hx hy e
    obtain ⟨i, hi, rfl⟩ := List.getElem_of_mem hx
    obtain ⟨j, hj, rfl⟩ := List.getElem_of_mem hy
    have := List.pairwise_iff_getElem.1 d
    rcases Nat.lt_trichotomy i j with hlt | heq | hlt
    · exact absurd e (this i j hi hj hlt)
    · subst heq; rfl
    · exact absurd e.symm (this j i hj hi hlt)
  refine List.Perm.eq_of_pairwise (le := fun x y => A y x = false) (fun a b ha hb h1 h2 => ?_) p p' h
  exact deq a b ha (h.symm.subset hb) (hA a b h2 h1)
structure G {α : Type} (age : α → Int) (P : α → Prop) (es : List α) (n : Nat) : Prop where
  di : es.Pairwise (fun x y => age x ≠ age y)
  ok : ∀ e ∈ es, 0 ≤ age e ∧ age e < n ∧ P e
theorem G.nil {α : Type} {age : α → Int} {P : α → Prop} : G age P ([] : List α) 0 := ⟨.nil, by simp⟩
theorem pw_perm {α : Type} {age : α → Int} {l l' : List α} (h : l.Perm l') (p : l'.Pairwise (fun x y => age x ≠ age y)) : l.Pairwise (fun x y => age x ≠ age y) := (h.pairwise_iff (fun {a b} (h : age a ≠ age b) => h.symm)).2 p
theorem G.push {α : Type} {age : α → Int} {P : α → Prop} {es cs : List α} {n : Nat} (h : G age P es n) (e : α) (ha : age e = n) (hp : P e) (p : cs.Perm (es ++ [e])) : G age P cs (n + 1) := by
  refine ⟨pw_perm p (List.pairwise_append.2 ⟨h.di, by simp, fun x hx y hy => ?_⟩), fun x hx => ?_⟩
  · simp at hy; subst hy
    have := h.ok x hx
    omega
  · have := p.subset hx
    simp at this
    rcases this with h1 | rfl
    · have := h.ok x h1
      exact ⟨this.1, by omega, this.2.2⟩
    · exact ⟨by omega, by omega, hp⟩
/-- a pop -/
theorem HA.pop {w0 w : World} {H : Nat} {es : List im.E} {n : Nat} (h : HA w0 w H es n) {l : List im.E} {M : Nat} (x : im.E) (pl : (x :: l).Perm es) (hl : (x :: l).Pairwise (fun x y => im.lex y x = false)) (hd : es.Pairwise (fun x y => x.a ≠ y.a)) (hM : es.length = M + 1) (hw : w0.heap.size ≤ w.heap.size) :
    Calls Try.prog 37 #[.pointer (some ⟨H, 0, none⟩)] w fun r w' => r = .returned (.tuple #[.int .i64 x.r, .bool true]) ∧ Mv w0 [107, 113] w w' ∧ ∃ cs, HA w0 w' H cs n ∧ l.Perm cs := by
  obtain ⟨v, h1, h2⟩ := h.ex
  obtain ⟨G, cap, rfl, hcap⟩ := h1.shape (by omega)
  rw [hM] at h1
  have e0 : im.g es 0 = x := by
    have hm : im.g es 0 ∈ es := by rw [im.g_eq _ _ (by omega)]; exact List.getElem_mem _
    obtain ⟨k, hk, hx⟩ := List.getElem_of_mem (pl.subset (List.mem_cons_self (a := x) (l := l)))
    have k1 := h.hp.min ilex_ord k hk
    rw [im.g_eq _ _ hk, hx] at k1
    have hm2 := pl.symm.subset hm
    simp at hm2
    rcases hm2 with e | hm2
    · exact e
    · have k2 := (List.pairwise_cons.1 hl).1 _ hm2
      rw [ilex_false] at k1 k2
      have : (x :: l).Pairwise (fun x y => x.a ≠ y.a) := pw_perm pl hd
      have := (List.pairwise_cons.1 this).1 _ hm2
      omega
  refine (im.pop_at im.kindFresh w H G cap M es n h1 hM).mono ?_
  rintro r w' ⟨rfl, ⟨cs, q1, q2, q3, q4, q5⟩⟩
  rw [e0] at q3 ⊢
  refine ⟨rfl, HA.ids (v := .slice (some ⟨G, 0, none⟩) (M + 1) cap) h1 (fun k hk => h2 k (by simpa [Value.ownBlock] using hk)) h.hH (by simpa [im.ids, Value.ownBlock] using q5), cs, ⟨⟨_, q2, fun k hk => h2 k (by simpa [Value.ownBlock] using hk)⟩, q4 _ ifits h.hp, h.hH⟩, ?_⟩
  exact (pl.trans q3.symm).cons_inv
/-- the last one taken -/
theorem HC.take {w0 w : World} {H : Nat} {es : List tm.E} {n : Nat} (h : HC w0 w H es n) {l : List tm.E} {M : Nat} (x : tm.E) (pl : (l ++ [x]).Perm es) (hl : (l ++ [x]).Pairwise (fun x y => tm.lexC y x = false)) (hd : es.Pairwise (fun x y => x.a ≠ y.a)) (hM : l.length = M) (hw : w0.heap.size ≤ w.heap.size) :
    Calls Try.prog 38 #[.pointer (some ⟨H, 0, none⟩), .int .i64 M] w fun r w' => r = .returned (.tuple #[.agg #[.int .i64 x.r, .int .i64 x.m, .int .i64 x.k, .int .i64 x.c], .bool true]) ∧ Mv w0 [102, 100] w w' ∧ ∃ cs, HC w0 w' H cs n ∧ l.Perm cs := by
  obtain ⟨v, h1, h2⟩ := h.ex
  have hle : es.length = M + 1 := by rw [← pl.length_eq]; simp [hM]
  obtain ⟨G, cap, rfl, hcap⟩ := h1.shape (by omega)
  rw [hle] at h1
  refine (tm.take_at tm.kindCall w H G cap (M + 1) M n es h1 hle (by omega)).mono ?_
  rintro r w' ⟨e, rfl, ⟨v', ps, rest, cs, hpl, at', p1, p2, p3, ap, nw⟩⟩
  obtain ⟨q1, q2⟩ := p3 _ tfits h.hp
  have hr : rest = [] := by
    have := p2.length_eq
    simp at this
    exact List.length_eq_zero_iff.1 (by omega)
  subst hr
  have he : l ++ [x] = ps ++ [e] := uniq (A := tm.lexC) (age := (·.a)) (fun x y k1 k2 => by rw [tlex_false] at k1 k2; omega) (pw_perm pl hd) (pl.trans p2.symm) hl q2.1
  obtain ⟨rfl, hx⟩ := List.append_inj' he rfl
  simp at hx
  subst hx
  refine ⟨rfl, HC.ids (v := .slice (some ⟨G, 0, none⟩) (M + 1) cap) h1 (fun k hk => h2 k (by simpa [Value.ownBlock] using hk)) h.hH ap, cs, ⟨⟨v', at', fun k hk => ?_⟩, q1, h.hH⟩, by simpa using p1.symm⟩
  rcases nw with e | ⟨q, e, hq⟩
  · exact h2 k (by rw [e] at hk; simpa [Value.ownBlock] using hk)
  · rw [e] at hk; simp at hk; subst hk; omega
def Li (w : World) (m : nm.Sl) (a : Int) : Prop := ∃ L, m = ⟨some ⟨L, 0, none⟩, 1, 1⟩ ∧ w.heap[L]? = some (.cells #[.int .i64 a] 3 (0, 0))
theorem Li.mv {w0 w w' : World} {ts : List TypeId} {m : nm.Sl} {a : Int} (h : Li w m a) (mv : Mv w0 ts w w') (ht : 3 ∉ ts) : Li w' m a := by
  obtain ⟨L, h1, h2⟩ := h
  exact ⟨L, h1, mv.block h2 ht⟩
/-- the three heaps -/
structure St (w0 w : World) (A B C : Nat) (T : Nat → ByteArray) (ea : List im.E) (eb : List nm.E) (ec : List tm.E) (na nb nc : Nat) : Prop where
  ap : im.Apart [] w0 w
  a : HA w0 w A ea na
  b : HB w0 w B eb nb
  c : HC w0 w C ec nc
  ga : G im.E.a (fun _ => True) ea na
  gb : G nm.E.a (fun e => e.r = T e.a.toNat) eb nb
  gc : G tm.E.a (fun e => e.m = e.a) ec nc
  li : ∀ e ∈ eb, Li w e.m e.a
  la : ea.length = na
  lb : eb.length = nb
  lc : ec.length = nc
theorem St.keep {w0 w w' : World} {A B C : Nat} {T : Nat → ByteArray} {ea : List im.E} {eb : List nm.E} {ec : List tm.E} {na nb nc : Nat} (h : St w0 w A B C T ea eb ec na nb nc) (a : im.Apart [] w w') : St w0 w' A B C T ea eb ec na nb nc :=
  have m : Mv w0 [] w w' := .of a
  ⟨m.ap h.ap, h.a.mv m (by simp) (by simp), h.b.mv m (by simp) (by simp), h.c.mv m (by simp) (by simp), h.ga, h.gb, h.gc, fun e he => (h.li e he).mv m (by simp), h.la, h.lb, h.lc⟩
theorem St.pushA {w0 w : World} {A B C : Nat} {T : Nat → ByteArray} {ea : List im.E} {eb : List nm.E} {ec : List tm.E} {na nb nc : Nat} (h : St w0 w A B C T ea eb ec na nb nc) (x : Int) (hn : na < 4000000) :
    Calls Try.prog 31 #[.pointer (some ⟨A, 0, none⟩), .int .i64 x] w fun r w' => r = .returned (.tuple #[]) ∧ ∃ ea', St w0 w' A B C T ea' eb ec (na + 1) nb nc := by
  refine (h.a.push x (by rw [h.la]; omega) hn h.ap.size).mono ?_
  rintro r w' ⟨rfl, m, cs, h1, p⟩
  exact ⟨rfl, cs, m.ap h.ap, h1, h.b.mv m (by simp) (by simp), h.c.mv m (by simp) (by simp), h.ga.push _ rfl trivial p, h.gb, h.gc, fun e he => (h.li e he).mv m (by simp), by rw [p.length_eq]; simp [h.la], h.lb, h.lc⟩
theorem St.pushC {w0 w : World} {A B C : Nat} {T : Nat → ByteArray} {ea : List im.E} {eb : List nm.E} {ec : List tm.E} {na nb nc : Nat} (h : St w0 w A B C T ea eb ec na nb nc) (x : Int) (hn : nc < 4000000) :
    Calls Try.prog 32 #[.pointer (some ⟨C, 0, none⟩), .agg #[.int .i64 0, .int .i64 nc, .int .i64 0, .int .i64 x]] w fun r w' => r = .returned (.tuple #[]) ∧ ∃ ec', St w0 w' A B C T ea eb ec' na nb (nc + 1) := by
  refine (h.c.push 0 nc 0 x (by rw [h.lc]; omega) hn h.ap.size).mono ?_
  rintro r w' ⟨rfl, m, cs, h1, p⟩
  exact ⟨rfl, cs, m.ap h.ap, h.a.mv m (by simp) (by simp), h.b.mv m (by simp) (by simp), h1, h.ga, h.gb, h.gc.push _ rfl rfl p, fun e he => (h.li e he).mv m (by simp), h.la, h.lb, by rw [p.length_eq]; simp [h.lc]⟩
theorem St.pushB {w0 w : World} {A B C : Nat} {T : Nat → ByteArray} {ea : List im.E} {eb : List nm.E} {ec : List tm.E} {na nb nc : Nat} (h : St w0 w A B C T ea eb ec na nb nc) (L : Nat) (hL : w.heap[L]? = some (.cells #[.int .i64 nb] 3 (0, 0))) (hn : nb < 4000000) :
    Calls Try.prog 33 #[.pointer (some ⟨B, 0, none⟩), .agg #[.string (T nb), .slice (some ⟨L, 0, none⟩) 1 1]] w fun r w' => r = .returned (.tuple #[]) ∧ ∃ eb', St w0 w' A B C T ea eb' ec na (nb + 1) nc := by
  refine (h.b.push (T nb) ⟨some ⟨L, 0, none⟩, 1, 1⟩ (by rw [h.lb]; omega) hn h.ap.size).mono ?_
  rintro r w' ⟨rfl, m, cs, h1, p⟩
  refine ⟨rfl, cs, m.ap h.ap, h.a.mv m (by simp) (by simp), h1, h.c.mv m (by simp) (by simp), h.ga, h.gb.push _ rfl (by simp) p, h.gc, fun e he => ?_, h.la, by rw [p.length_eq]; simp [h.lb], h.lc⟩
  have := p.subset he
  simp at this
  rcases this with h2 | rfl
  · exact (h.li e h2).mv m (by simp)
  · exact ⟨L, rfl, m.block hL (by simp)⟩
end Go.Proofs.Ytopmhacnopfifaa.kk
