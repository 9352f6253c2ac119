import Derived.Test.YtagjmpdimphfaaaTold
import Derived.Test.YtagjmpdimphfaaaApart
import Derived.Test.YtagjmpdimphfaaaRefC
namespace Go.Proofs.Ytagjmpdimphfaaa.rg
open Go.ChangeShapes Go.WideShapes Go.ChangeAt Go.RowKit
set_option linter.unusedVariables false
set_option linter.unusedSimpArgs false
/-- a list that is answered, with its error -/
structure LPost (w w' : World) (r : Ending) (Z : List Int) (E : Int) : Prop where
  ex : ∃ p k cap, r = .returned (.tuple #[.slice p k cap, .int .i64 E]) ∧ (An.mk p k cap Z).At w' ∧ (∀ b, (An.mk p k cap Z).blk = some b → w.heap.size ≤ b) ∧ k ≤ 8 ∧ Apart [] w w'
theorem LPost.bad {w w' : World} {E : Int} (a : Apart [] w w') : LPost w w' (.returned (.tuple #[.slice none 0 0, .int .i64 E])) [] E :=
  ⟨none, 0, 0, rfl, .inl ⟨rfl, rfl, rfl, rfl⟩, fun b hb => (by cases hb), by omega, a⟩
theorem LPost.lst {w w' : World} {r : Ending} {n : Nat} {xs : List Nat} (h : LstPost w w' r n xs) (hn : n ≤ 8) : LPost w w' r (ints xs) 0 := by
  obtain ⟨P, o, cap, rfl, hP, a, B⟩ := h.ex
  exact ⟨some ⟨P, o, none⟩, n, cap, rfl, .inr ⟨P, o, rfl, B⟩, fun b hb => by simp [An.blk] at hb; subst hb; exact hP, hn, a⟩
theorem LPost.ord {w w' : World} {r : Ending} {n : Nat} {xs : List Nat} (h : OrdPost w w' r n xs) (hn : n ≤ 8) : LPost w w' r (ints xs) 0 := by
  obtain ⟨P, cap, rfl, O, _, _⟩ := h.ex
  exact ⟨some ⟨P, 0, none⟩, n, cap, rfl, .inr ⟨P, 0, rfl, O.ob⟩, fun b hb => by simp [An.blk] at hb; subst hb; exact O.new P rfl, hn, O.ap⟩
def okR (m : Nat) (A : Int) : Prop := 0 ≤ A ∧ A < (m : Int)
instance (m : Nat) (A : Int) : Decidable (okR m A) := by unfold okR; infer_instance
def okN (n : Nat) (B : Int) : Prop := 1 ≤ B ∧ B ≤ (n : Int)
instance (n : Nat) (B : Int) : Decidable (okN n B) := by unfold okN; infer_instance
def ordZ (n m : Nat) (A : Int) : List Int := if okR m A then ints (ord n A.toNat) else []
def ordE (m : Nat) (A : Int) : Int := if okR m A then 0 else 40
def partE (n m : Nat) (A B : Int) : Int := if okR m A then (if okN n B then 0 else 1) else 40
def prefZ (n m : Nat) (A B : Int) : List Int := if okR m A then (if okN n B then ints ((ord n A.toNat).take B.toNat) else []) else []
def standZ (n m : Nat) (A B : Int) : List Int := if okR m A then (if okN n B then ints ((ord n A.toNat).drop B.toNat) else []) else []
theorem natA {A : Int} {m : Nat} (h : okR m A) : ∃ r : Nat, A = (r : Int) ∧ A.toNat = r ∧ r < m := by
  obtain ⟨h1, h2⟩ := h
  exact ⟨A.toNat, by omega, rfl, by omega⟩
theorem natB {B : Int} {n : Nat} (h : okN n B) : ∃ k : Nat, B = (k : Int) ∧ B.toNat = k ∧ 1 ≤ k ∧ k ≤ n := by
  obtain ⟨h1, h2⟩ := h
  exact ⟨B.toNat, by omega, rfl, by omega, by omega⟩
theorem order_any {w : World} {R n m : Nat} (G : Rg w R n m) (A : Int) : Calls Try.prog 12 #[.pointer (some ⟨R, 0, none⟩), .int .i64 A] w fun r w' => LPost w w' r (ordZ n m A) (ordE m A) := by
  unfold ordZ ordE
  by_cases h : okR m A
  · rw [if_pos h, if_pos h]
    obtain ⟨r, rfl, h2, h3⟩ := natA h
    rw [h2]
    exact (order_ok G r h3).mono fun e w' hp => LPost.ord hp G.n8
  · rw [if_neg h, if_neg h]
    refine (order_bad G A (by unfold okR at h; omega)).mono ?_
    rintro e w' ⟨rfl, rfl⟩
    exact LPost.bad (Apart.refl _ _)
theorem rorder_any {w : World} {R n m : Nat} (G : Rg w R n m) (A : Int) : Calls Try.prog 32 #[.pointer (some ⟨R, 0, none⟩), .int .i64 A] w fun r w' => LPost w w' r (ordZ n m A) (ordE m A) := by
  unfold ordZ ordE
  by_cases h : okR m A
  · rw [if_pos h, if_pos h]
    obtain ⟨r, rfl, h2, h3⟩ := natA h
    rw [h2]
    exact (rorder_ok G r h3).mono fun e w' hp => LPost.ord hp G.n8
  · rw [if_neg h, if_neg h]
    refine (rorder_bad G A (by unfold okR at h; omega)).mono ?_
    rintro e w' ⟨rfl, rfl⟩
    exact LPost.bad (Apart.refl _ _)
theorem pref_any {w : World} {R n m : Nat} (G : Rg w R n m) (A B : Int) : Calls Try.prog 15 #[.pointer (some ⟨R, 0, none⟩), .int .i64 A, .int .i64 B] w fun r w' => LPost w w' r (prefZ n m A B) (partE n m A B) := by
  unfold prefZ partE
  have hn8 := G.n8
  by_cases h : okR m A
  · rw [if_pos h, if_pos h]
    obtain ⟨r, rfl, h2, h3⟩ := natA h
    rw [h2]
    by_cases hb : okN n B
    · rw [if_pos hb, if_pos hb]
      obtain ⟨k, rfl, h4, h5, h6⟩ := natB hb
      rw [h4]
      exact (pref_ok G r h3 k h5 h6).mono fun e w' hp => LPost.lst hp (by omega)
    · rw [if_neg hb, if_neg hb]
      refine (pref_arg G r h3 B (by unfold okN at hb; omega)).mono ?_
      rintro e w' ⟨rfl, a⟩
      exact LPost.bad a
  · rw [if_neg h, if_neg h]
    refine (pref_rng G A (by unfold okR at h; omega) B).mono ?_
    rintro e w' ⟨rfl, rfl⟩
    exact LPost.bad (Apart.refl _ _)
theorem rpref_any {w : World} {R n m : Nat} (G : Rg w R n m) (A B : Int) : Calls Try.prog 34 #[.pointer (some ⟨R, 0, none⟩), .int .i64 A, .int .i64 B] w fun r w' => LPost w w' r (prefZ n m A B) (partE n m A B) := by
  unfold prefZ partE
  have hn8 := G.n8
  by_cases h : okR m A
  · rw [if_pos h, if_pos h]
    obtain ⟨r, rfl, h2, h3⟩ := natA h
    rw [h2]
    by_cases hb : okN n B
    · rw [if_pos hb, if_pos hb]
      obtain ⟨k, rfl, h4, h5, h6⟩ := natB hb
      rw [h4]
      exact (rpref_ok G r h3 k h5 h6).mono fun e w' hp => LPost.lst hp (by omega)
    · rw [if_neg hb, if_neg hb]
      refine (rpref_arg G r h3 B (by unfold okN at hb; omega)).mono ?_
      rintro e w' ⟨rfl, a⟩
      exact LPost.bad a
  · rw [if_neg h, if_neg h]
    refine (rpref_rng G A (by unfold okR at h; omega) B).mono ?_
    rintro e w' ⟨rfl, rfl⟩
    exact LPost.bad (Apart.refl _ _)
theorem stand_any {w : World} {R n m : Nat} (G : Rg w R n m) (A B : Int) : Calls Try.prog 16 #[.pointer (some ⟨R, 0, none⟩), .int .i64 A, .int .i64 B] w fun r w' => LPost w w' r (standZ n m A B) (partE n m A B) := by
  unfold standZ partE
  have hn8 := G.n8
  by_cases h : okR m A
  · rw [if_pos h, if_pos h]
    obtain ⟨r, rfl, h2, h3⟩ := natA h
    rw [h2]
    by_cases hb : okN n B
    · rw [if_pos hb, if_pos hb]
      obtain ⟨k, rfl, h4, h5, h6⟩ := natB hb
      rw [h4]
      exact (stand_ok G r h3 k h5 h6).mono fun e w' hp => LPost.lst hp (by omega)
    · rw [if_neg hb, if_neg hb]
      refine (stand_arg G r h3 B (by unfold okN at hb; omega)).mono ?_
      rintro e w' ⟨rfl, a⟩
      exact LPost.bad a
  · rw [if_neg h, if_neg h]
    refine (stand_rng G A (by unfold okR at h; omega) B).mono ?_
    rintro e w' ⟨rfl, rfl⟩
    exact LPost.bad (Apart.refl _ _)
theorem rstand_any {w : World} {R n m : Nat} (G : Rg w R n m) (A B : Int) : Calls Try.prog 35 #[.pointer (some ⟨R, 0, none⟩), .int .i64 A, .int .i64 B] w fun r w' => LPost w w' r (standZ n m A B) (partE n m A B) := by
  unfold standZ partE
  have hn8 := G.n8
  by_cases h : okR m A
  · rw [if_pos h, if_pos h]
    obtain ⟨r, rfl, h2, h3⟩ := natA h
    rw [h2]
    by_cases hb : okN n B
    · rw [if_pos hb, if_pos hb]
      obtain ⟨k, rfl, h4, h5, h6⟩ := natB hb
      rw [h4]
      exact (rstand_ok G r h3 k h5 h6).mono fun e w' hp => LPost.lst hp (by omega)
    · rw [if_neg hb, if_neg hb]
      refine (rstand_arg G r h3 B (by unfold okN at hb; omega)).mono ?_
      rintro e w' ⟨rfl, a⟩
      exact LPost.bad a
  · rw [if_neg h, if_neg h]
    refine (rstand_rng G A (by unfold okR at h; omega) B).mono ?_
    rintro e w' ⟨rfl, rfl⟩
    exact LPost.bad (Apart.refl _ _)
def rankV (n m : Nat) (A B : Int) : Int := if okR m A then (if 0 ≤ B ∧ B < (n : Int) then ((ord n A.toNat).idxOf B.toNat : Nat) else 0) else 0
def rankE (n m : Nat) (A B : Int) : Int := if okR m A then (if 0 ≤ B ∧ B < (n : Int) then 0 else 4) else 40
theorem rank_any {w : World} {R n m : Nat} (G : Rg w R n m) (A B : Int) : Calls Try.prog 17 #[.pointer (some ⟨R, 0, none⟩), .int .i64 A, .int .i64 B] w fun r w' => r = .returned (.tuple #[.int .i64 (rankV n m A B), .int .i64 (rankE n m A B)]) ∧ Apart [] w w' := by
  unfold rankV rankE
  by_cases h : okR m A
  · rw [if_pos h, if_pos h]
    obtain ⟨r, rfl, h2, h3⟩ := natA h
    rw [h2]
    by_cases hb : 0 ≤ B ∧ B < (n : Int)
    · rw [if_pos hb, if_pos hb]
      obtain ⟨k, rfl⟩ : ∃ k : Nat, B = (k : Int) := ⟨B.toNat, by omega⟩
      rw [show ((k : Int)).toNat = k by omega]
      exact rank_ok G r h3 k (by omega)
    · rw [if_neg hb, if_neg hb]
      exact rank_node G r h3 B (by omega)
  · rw [if_neg h, if_neg h]
    refine (rank_rng G A (by unfold okR at h; omega) B).mono ?_
    rintro e w' ⟨rfl, rfl⟩
    exact ⟨rfl, Apart.refl _ _⟩
theorem ord_lt {n r i : Nat} (hn : n ≤ 8) (hr : r < 16) (hi : i ∈ ord n r) : i < n := ord_below n (by omega) r hr i hi
theorem rrank_all {w : World} {R n m : Nat} (G : Rg w R n m) (A B : Int) : Calls Try.prog 36 #[.pointer (some ⟨R, 0, none⟩), .int .i64 A, .int .i64 B] w fun r w' => r = .returned (.tuple #[.int .i64 (rankV n m A B), .int .i64 (rankE n m A B)]) ∧ Apart [] w w' := by
  unfold rankV rankE
  have hn8 := G.n8
  have hm16 := G.m16
  by_cases h : okR m A
  · rw [if_pos h, if_pos h]
    obtain ⟨r, rfl, h2, h3⟩ := natA h
    rw [h2]
    refine (rrank_any G r h3 B).mono ?_
    rintro e w' ⟨⟨hin, hout⟩, a⟩
    by_cases hb : 0 ≤ B ∧ B < (n : Int)
    · rw [if_pos hb, if_pos hb]
      obtain ⟨k, rfl⟩ : ∃ k : Nat, B = (k : Int) := ⟨B.toNat, by omega⟩
      rw [show ((k : Int)).toNat = k by omega]
      have := hin (ints_mem (ord_mem hn8 (by omega) (by omega)))
      rw [ints_idx] at this
      exact ⟨this, a⟩
    · rw [if_neg hb, if_neg hb]
      refine ⟨hout (fun hm => hb ?_), a⟩
      simp only [ints, List.mem_map] at hm
      obtain ⟨x, hx, e⟩ := hm
      have := ord_lt hn8 (by omega) hx
      omega
  · rw [if_neg h, if_neg h]
    refine (rrank_rng G A (by unfold okR at h; omega) B).mono ?_
    rintro e w' ⟨rfl, rfl⟩
    exact ⟨rfl, Apart.refl _ _⟩
/-- a ring, the document's ring, and the shelf -/
structure Cx (w : World) (S mark : Nat) (d : Sd) (who : Nat → Option Nat) (R Q n m : Nat) : Prop where
  sh : Sh w S mark d who
  g1 : Rg w R n m
  g2 : Rg w Q n m
  wR : who R = none
  wQ : who Q = none
theorem Cx.kept0 {w w' : World} {S mark : Nat} {d : Sd} {who : Nat → Option Nat} {R Q n m : Nat} (h : Cx w S mark d who R Q n m) (a : Apart [] w w') : Cx w' S mark d who R Q n m := ⟨h.sh.kept0 a, h.g1.kept0 a, h.g2.kept0 a, h.wR, h.wQ⟩
structure AskP (w w' : World) (r : Ending) (S mark : Nat) (who : Nat → Option Nat) : Prop where
  ret : r = .returned (.bool true)
  ex : ∃ mark' d' who', mark' ≤ mark + 1 ∧ Sh w' S mark' d' who' ∧ ∀ k s, who' k = some s → who k = some s ∨ w.heap.size ≤ k
  fr : Fr (fun k => who k = none) w w'
theorem Rg.same {w w' : World} {R n m : Nat} (h : Rg w R n m) (e : w'.heap[R]? = w.heap[R]?) : Rg w' R n m := { h with c0 := by rw [← h.c0]; exact World.cell?_of_block (w := w) e, c1 := by rw [← h.c1]; exact World.cell?_of_block (w := w) e }
theorem askp_told {w w3 w' : World} {r : Ending} {S mark : Nat} {who : Nat → Option Nat} {b : Option Nat} (a : Apart [] w w3) (t : ToldPost w3 w' r S mark who b) (hb : ∀ k, b = some k → w.heap.size ≤ k) : AskP w w' r S mark who := by
  obtain ⟨d', who', hS, hw⟩ := t.ex
  have s1 := a.size
  refine ⟨t.ret, ⟨mark + 1, d', who', Nat.le_refl _, hS, fun k s hk => ?_⟩, ⟨t.fr.os.trans a.os, t.fr.tape.trans a.tape, t.fr.output.trans a.output, Nat.le_trans a.size t.fr.size, fun k hk hn => ?_⟩⟩
  · rcases hw k s hk with h | h | h
    · exact .inl h
    · exact .inr (hb k h)
    · exact .inr (by omega)
  · rw [t.fr.block k (by omega) ⟨hn, fun e => by have := hb k e; omega⟩, a.block k hk (by simp)]
theorem askp_plain {w w' : World} {S mark : Nat} {d : Sd} {who : Nat → Option Nat} (h : Sh w S mark d who) (a : Apart [] w w') : AskP w w' (.returned (.bool true)) S mark who :=
  ⟨rfl, ⟨mark, d, who, by omega, h.kept0 a, fun k s hk => .inl hk⟩, ⟨a.os, a.tape, a.output, a.size, fun k hk _ => a.block k hk (by simp)⟩⟩
end Go.Proofs.Ytagjmpdimphfaaa.rg
