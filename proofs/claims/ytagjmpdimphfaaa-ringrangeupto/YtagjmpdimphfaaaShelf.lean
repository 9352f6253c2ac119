import Derived.Test.YtagjmpdimphfaaaSl
namespace Go.Proofs.Ytagjmpdimphfaaa.rg
open Go.ChangeShapes Go.WideShapes Go.ChangeAt Go.RowKit
set_option linter.unusedVariables false
set_option linter.unusedSimpArgs false
def ety (f : Nat) : TypeId := if f = 1 then 3 else 28
def sty (f : Nat) : TypeId := if f = 1 then 28 else 51
def fs : List Nat := [0, 1, 3, 4]
def rowS (v : Nat → Value) (mark : Nat) : Array Value := #[v 0, v 1, .int .i64 (mark : Nat), v 3, v 4]
def updV (v : Nat → Value) (f : Nat) (x : Value) : Nat → Value := fun k => if k = f then x else v k
def updG (v : Nat → Option Nat) (f : Nat) (x : Option Nat) : Nat → Option Nat := fun k => if k = f then x else v k
def updC (v : Nat → List Value) (f : Nat) (x : List Value) : Nat → List Value := fun k => if k = f then x else v k
theorem rowS_upd (v : Nat → Value) (mark f : Nat) (x : Value) (hf : f ∈ fs) : (rowS v mark).setIfInBounds f x = rowS (updV v f x) mark := by
  simp only [fs, List.mem_cons, List.not_mem_nil, or_false] at hf
  rcases hf with rfl | rfl | rfl | rfl <;> rfl
theorem rowS_mark (v : Nat → Value) (mark m : Nat) : (rowS v mark).setIfInBounds 2 (.int .i64 (m : Nat)) = rowS v m := rfl
theorem rowS_get (v : Nat → Value) (mark f : Nat) (hf : f ∈ fs) : (rowS v mark)[f]? = some (v f) := by
  simp only [fs, List.mem_cons, List.not_mem_nil, or_false] at hf
  rcases hf with rfl | rfl | rfl | rfl <;> rfl
/-- the shelf's own row, and its four lists -/
structure Sm (w : World) (S mark : Nat) (c : Nat → List Value) (who : Nat → Option Nat) : Prop where
  own : ∀ k t, who k = some t → k < w.heap.size
  wS : who S = some 0
  ex : ∃ (v : Nat → Value) (G : Nat → Option Nat), w.heap[S]? = some (.cells (rowS v mark) 53 (0, 0)) ∧ ∀ f, f ∈ fs → SlAt w (ety f) (v f) (c f) (G f) ∧ ∀ g, G f = some g → who g = some (f + 1)
theorem Sm.congr {w : World} {S mark : Nat} {c c' : Nat → List Value} {who : Nat → Option Nat} (h : Sm w S mark c who) (hc : ∀ f, f ∈ fs → c f = c' f) : Sm w S mark c' who := by
  obtain ⟨v, G, hr, hf⟩ := h.ex
  exact ⟨h.own, h.wS, v, G, hr, fun f hm => by rw [← hc f hm]; exact hf f hm⟩
theorem Sm.lt {w : World} {S mark : Nat} {c : Nat → List Value} {who : Nat → Option Nat} (h : Sm w S mark c who) : S < w.heap.size := h.own S 0 h.wS
theorem Sm.kept {w w' : World} {S mark : Nat} {c : Nat → List Value} {who : Nat → Option Nat} {X : List Nat} (h : Sm w S mark c who) (a : Apart X w w') (hX : ∀ x ∈ X, who x = none) : Sm w' S mark c who := by
  obtain ⟨v, G, hr, hf⟩ := h.ex
  refine ⟨fun k t hk => Nat.lt_of_lt_of_le (h.own k t hk) a.size, h.wS, v, G, (a.block S h.lt (fun hm => ?_)).trans hr, fun f hm => ⟨(hf f hm).1.kept a (fun g hg hx => ?_), (hf f hm).2⟩⟩
  · have := hX S hm; rw [h.wS] at this; cases this
  · have h1 := hX g hx
    rw [(hf f hm).2 g hg] at h1; cases h1
theorem Sm.kept0 {w w' : World} {S mark : Nat} {c : Nat → List Value} {who : Nat → Option Nat} (h : Sm w S mark c who) (a : Apart [] w w') : Sm w' S mark c who := h.kept a (by simp)
/-- what a field of the shelf reads -/
theorem Sm.field {w : World} {S mark : Nat} {c : Nat → List Value} {who : Nat → Option Nat} (h : Sm w S mark c who) (f : Nat) (hf : f ∈ fs) : ∃ p cp, w.cell? ⟨S, f, none⟩ = some (.slice p (c f).length cp) ∧ w.frozen? ⟨S, f, none⟩ = false ∧
    ∀ i x, (c f)[i]? = some x → ∃ g o, p = some ⟨g, o, none⟩ ∧ w.cell? ⟨g, o + i, none⟩ = some x := by
  obtain ⟨v, G, hr, hfs⟩ := h.ex
  obtain ⟨hs, _⟩ := hfs f hf
  have hcell : w.cell? ⟨S, f, none⟩ = some (v f) := by rw [cell_of_row _ _ _ _ _ _ hr, rowS_get v mark f hf]
  have hfz : w.frozen? ⟨S, f, none⟩ = false := frozen_of_row _ _ _ _ _ hr
  cases hG : G f with
  | none =>
    rw [hG] at hs
    obtain ⟨hv, hx⟩ := hs
    exact ⟨none, 0, by rw [hcell, hv, hx]; rfl, hfz, fun i x hi => by rw [hx] at hi; simp at hi⟩
  | some g =>
    rw [hG] at hs
    obtain ⟨off, cap, cur, hv, hg, hle, hsz, hc⟩ := hs
    refine ⟨some ⟨g, off, none⟩, cap, by rw [hcell, hv], hfz, fun i x hi => ⟨g, off, rfl, ?_⟩⟩
    have hil : i < (c f).length := (List.getElem?_eq_some_iff.1 hi).1
    rw [cell_of_row _ _ _ _ _ _ hg, hc i hil]; exact hi
theorem Sm.mark2 {w : World} {S mark : Nat} {c : Nat → List Value} {who : Nat → Option Nat} (h : Sm w S mark c who) : w.cell? ⟨S, 2, none⟩ = some (.int .i64 (mark : Nat)) ∧ w.frozen? ⟨S, 2, none⟩ = false := by
  obtain ⟨v, G, hr, hfs⟩ := h.ex
  exact ⟨by rw [cell_of_row _ _ _ _ _ _ hr]; rfl, frozen_of_row _ _ _ _ _ hr⟩
theorem Sm.setMark {w : World} {S mark : Nat} {c : Nat → List Value} {who : Nat → Option Nat} (h : Sm w S mark c who) (m : Nat) : Sm (w.setCell ⟨S, 2, none⟩ (.int .i64 (m : Nat))) S m c who := by
  obtain ⟨v, G, hr, hf⟩ := h.ex
  have a : Apart [S] w (w.setCell ⟨S, 2, none⟩ (.int .i64 (m : Nat))) := (Apart.refl [S] w).setCell (by simp) _
  refine ⟨fun k t hk => Nat.lt_of_lt_of_le (h.own k t hk) a.size, h.wS, v, G, ?_, fun f hm => ⟨(hf f hm).1.kept a (fun g hg hx => ?_), (hf f hm).2⟩⟩
  · have := heap_setCell_same w S 2 _ 53 (.int .i64 (m : Nat)) hr
    rwa [rowS_mark] at this
  · simp at hx; subst hx
    have := (hf f hm).2 g hg; rw [h.wS] at this; simp at this
/-- who has what, with one block more -/
def whoP (who : Nat → Option Nat) (b : Option Nat) (t : Nat) : Nat → Option Nat := fun k => if b = some k then some t else who k
theorem whoP_old {who : Nat → Option Nat} {b : Option Nat} {t : Nat} (hb : ∀ k, b = some k → who k = none ∨ who k = some t) {k s : Nat} (h : who k = some s) : whoP who b t k = some s := by
  unfold whoP
  split
  · rename_i e
    rcases hb k e with h1 | h1 <;> rw [h1] at h
    · cases h
    · exact h
  · exact h
/-- a field's list has one more -/
theorem Sm.app {w : World} {S mark : Nat} {c : Nat → List Value} {who : Nat → Option Nat} (h : Sm w S mark c who) (f : Nat) (hf : f ∈ fs) (x : Value) (hx : x.oneCell' = true) (hl : (c f).length ≤ 1000) {p : Option Addr} {cp : Nat} (hc : w.cell? ⟨S, f, none⟩ = some (.slice p (c f).length cp)) (ty : TypeId) :
    ∃ p' cp' w2, (Builtin.append_ #[sty f, sty f] ty #[.slice p (c f).length cp, .slice (some ⟨w.heap.size, 0, none⟩) 1 1]).run Try.prog (w.alloc (.cells #[x] (ety f))) = .ok (.slice p' ((c f).length + 1) cp') w2 ∧
      (∃ y, w2.cell? ⟨S, f, none⟩ = some y) ∧ w2.frozen? ⟨S, f, none⟩ = false ∧
      ∃ who' X, Sm (w2.setCell ⟨S, f, none⟩ (.slice p' ((c f).length + 1) cp')) S mark (updC c f (c f ++ [x])) who' ∧ (∀ k s, who k = some s → who' k = some s) ∧ (∀ k s, who' k = some s → who k = some s ∨ (w.heap.size ≤ k ∧ s = f + 1)) ∧
        Apart X w (w2.setCell ⟨S, f, none⟩ (.slice p' ((c f).length + 1) cp')) ∧ (∀ k ∈ X, who k = some 0 ∨ who k = some (f + 1)) := by
  obtain ⟨v, G, hr, hfs⟩ := h.ex
  obtain ⟨hs, ht⟩ := hfs f hf
  have hcell : w.cell? ⟨S, f, none⟩ = some (v f) := by rw [cell_of_row _ _ _ _ _ _ hr, rowS_get v mark f hf]
  have hv : v f = .slice p (c f).length cp := by rw [hc] at hcell; exact (Option.some.inj hcell).symm
  have aA : Apart [] w (w.alloc (.cells #[x] (ety f))) := (Apart.refl _ _).alloc _
  have hs1 := hs.kept aA (by simp)
  rw [hv] at hs1
  have happ : ∃ v' w' G', (Builtin.append_ #[sty f, sty f] ty #[.slice p (c f).length cp, .slice (some ⟨w.heap.size, 0, none⟩) 1 1]).run Try.prog (w.alloc (.cells #[x] (ety f))) = .ok v' w' ∧ SlAt w' (ety f) v' (c f ++ [x]) G' ∧ Apart (G f).toList (w.alloc (.cells #[x] (ety f))) w' ∧ (G' = G f ∨ ∃ k, G' = some k ∧ (w.alloc (.cells #[x] (ety f))).heap.size ≤ k) := by
    by_cases h1 : f = 1
    · subst h1
      exact append28 _ ty _ _ _ hs1 ⟨w.heap.size, 0, none⟩ 1 x (by simp) hx (by omega)
    · have e1 : ety f = 28 := by unfold ety; rw [if_neg h1]
      have e2 : sty f = 51 := by unfold sty; rw [if_neg h1]
      rw [e1] at hs1 ⊢
      rw [e2]
      exact append51 _ ty _ _ _ hs1 ⟨w.heap.size, 0, none⟩ 1 x (by simp) hx (by omega)
  obtain ⟨v', w2, G', hrun, s2, a2, o2⟩ := happ
  have hshape := s2.shape
  rw [List.length_append, List.length_singleton] at hshape
  obtain ⟨p', cp', rfl⟩ := hshape
  have aW : Apart (G f).toList w w2 := (aA.mono (by simp)).trans a2
  have hSn : S ∉ (G f).toList := fun hm => by
    have hg : G f = some S := by simpa using hm
    have := ht S hg; rw [h.wS] at this; simp at this
  have hr2 : w2.heap[S]? = some (.cells (rowS v mark) 53 (0, 0)) := (aW.block S h.lt hSn).trans hr
  have hcw2 : w2.cell? ⟨S, f, none⟩ = some (v f) := by rw [cell_of_row _ _ _ _ _ _ hr2, rowS_get v mark f hf]
  have a3 : Apart (S :: (G f).toList) w (w2.setCell ⟨S, f, none⟩ (.slice p' ((c f).length + 1) cp')) := (aW.mono (by simp +contextual)).setCell (by simp) _
  have aS : Apart [S] w2 (w2.setCell ⟨S, f, none⟩ (.slice p' ((c f).length + 1) cp')) := (Apart.refl [S] w2).setCell (by simp) _
  have hG'k : ∀ k, G' = some k → who k = none ∨ who k = some (f + 1) := by
    intro k hk
    rcases o2 with o2 | ⟨j, o2, o3⟩
    · exact .inr (ht k (o2 ▸ hk))
    · rw [o2] at hk; cases hk
      left
      cases hw : who k with
      | none => rfl
      | some t => have := h.own k t hw; have := aA.size; omega
  have hnew : ∀ k, G' = some k → G f = some k ∨ w.heap.size ≤ k := by
    intro k hk
    rcases o2 with o2 | ⟨j, o2, o3⟩
    · exact .inl (o2 ▸ hk)
    · rw [o2] at hk; cases hk
      exact .inr (Nat.le_trans aA.size o3)
  have hG'2 : ∀ k, G' = some k → k < w2.heap.size := by
    intro k hk
    rw [hk] at s2
    obtain ⟨cur, e⟩ := s2.typ
    exact lt_of_heap e
  have hlt2 := aW.size
  refine ⟨p', cp', w2, hrun, ⟨_, hcw2⟩, frozen_of_row _ _ _ _ _ hr2, whoP who G' (f + 1), S :: (G f).toList, ?_, fun k s hk => whoP_old hG'k hk, ?_, a3, ?_⟩
  · refine ⟨fun k t hk => ?_, whoP_old hG'k h.wS, updV v f (.slice p' ((c f).length + 1) cp'), updG G f G', ?_, fun f2 hm2 => ?_⟩
    · unfold whoP at hk
      split at hk
      · rename_i e; exact Nat.lt_of_lt_of_le (hG'2 k e) aS.size
      · exact Nat.lt_of_lt_of_le (h.own k t hk) a3.size
    · have := heap_setCell_same w2 S f _ 53 (.slice p' ((c f).length + 1) cp') hr2
      rwa [rowS_upd v mark f _ hf] at this
    · by_cases hff : f2 = f
      · subst hff
        have e1 : updV v f2 (.slice p' ((c f2).length + 1) cp') f2 = .slice p' ((c f2).length + 1) cp' := by simp [updV]
        have e2 : updC c f2 (c f2 ++ [x]) f2 = c f2 ++ [x] := by simp [updC]
        have e3 : updG G f2 G' f2 = G' := by simp [updG]
        rw [e1, e2, e3]
        refine ⟨s2.kept aS (fun g hg hm => ?_), fun g hg => by simp [whoP, hg]⟩
        simp at hm; subst hm
        rcases hG'k g hg with h1 | h1 <;> rw [h.wS] at h1 <;> simp at h1
      · have e1 : updV v f (.slice p' ((c f).length + 1) cp') f2 = v f2 := by simp [updV, hff]
        have e2 : updC c f (c f ++ [x]) f2 = c f2 := by simp [updC, hff]
        have e3 : updG G f G' f2 = G f2 := by simp [updG, hff]
        rw [e1, e2, e3]
        obtain ⟨s3, t3⟩ := hfs f2 hm2
        refine ⟨s3.kept a3 (fun g hg hm => ?_), fun g hg => whoP_old hG'k (t3 g hg)⟩
        have hw := t3 g hg
        rcases List.mem_cons.1 hm with rfl | hm
        · rw [h.wS] at hw; simp at hw
        · have := ht g (by simpa using hm)
          rw [this] at hw; simp at hw; omega
  · intro k s hk
    unfold whoP at hk
    split at hk
    · rename_i e
      simp at hk
      rcases hnew k e with h1 | h1
      · left; rw [ht k h1, hk]
      · exact .inr ⟨h1, hk.symm⟩
    · exact .inl hk
  · intro k hk
    rcases List.mem_cons.1 hk with rfl | hk
    · exact .inl h.wS
    · exact .inr (ht k (by simpa using hk))
/-- a field's list loses its first -/
theorem Sm.cut {w : World} {S mark : Nat} {c : Nat → List Value} {who : Nat → Option Nat} (h : Sm w S mark c who) (f : Nat) (hf : f ∈ fs) (hl : 1 < (c f).length) :
    ∃ g o cp, w.cell? ⟨S, f, none⟩ = some (.slice (some ⟨g, o, none⟩) (c f).length cp) ∧ (c f).length ≤ cp ∧ Sm (w.setCell ⟨S, f, none⟩ (.slice (some ⟨g, o + 1, none⟩) ((c f).length - 1) (cp - 1))) S mark (updC c f (c f).tail) who := by
  obtain ⟨v, G, hr, hfs⟩ := h.ex
  obtain ⟨hs, ht⟩ := hfs f hf
  have hcell : w.cell? ⟨S, f, none⟩ = some (v f) := by rw [cell_of_row _ _ _ _ _ _ hr, rowS_get v mark f hf]
  cases hG : G f with
  | none => rw [hG] at hs; have := hs.2; rw [this] at hl; simp at hl
  | some g =>
    rw [hG] at hs
    have hs0 := hs
    obtain ⟨off, cap, cur, hv, hg, hle, hsz, hc⟩ := hs
    rw [hv] at hs0
    have htl := hs0.tail hl
    have a : Apart [S] w (w.setCell ⟨S, f, none⟩ (.slice (some ⟨g, off + 1, none⟩) ((c f).length - 1) (cap - 1))) := (Apart.refl [S] w).setCell (by simp) _
    refine ⟨g, off, cap, by rw [hcell, hv], hle, fun k t hk => Nat.lt_of_lt_of_le (h.own k t hk) a.size, h.wS, updV v f (.slice (some ⟨g, off + 1, none⟩) ((c f).length - 1) (cap - 1)), G, ?_, fun f2 hm2 => ?_⟩
    · have := heap_setCell_same w S f _ 53 (.slice (some ⟨g, off + 1, none⟩) ((c f).length - 1) (cap - 1)) hr
      rwa [rowS_upd v mark f _ hf] at this
    · by_cases hff : f2 = f
      · subst hff
        have e1 : updV v f2 (.slice (some ⟨g, off + 1, none⟩) ((c f2).length - 1) (cap - 1)) f2 = .slice (some ⟨g, off + 1, none⟩) ((c f2).length - 1) (cap - 1) := by simp [updV]
        have e2 : updC c f2 (c f2).tail f2 = (c f2).tail := by simp [updC]
        rw [e1, e2, hG]
        refine ⟨htl.kept a (fun g' hg' hm => ?_), fun g' hg' => ht g' (by rw [hG]; exact hg')⟩
        have hgg : g = g' := Option.some.inj hg'
        have hms : g' = S := by simpa using hm
        have := ht g hG
        rw [hgg, hms, h.wS] at this; simp at this
      · have e1 : updV v f (.slice (some ⟨g, off + 1, none⟩) ((c f).length - 1) (cap - 1)) f2 = v f2 := by simp [updV, hff]
        have e2 : updC c f (c f).tail f2 = c f2 := by simp [updC, hff]
        rw [e1, e2]
        obtain ⟨s3, t3⟩ := hfs f2 hm2
        refine ⟨s3.kept a (fun g' hg' hm => ?_), t3⟩
        simp at hm; subst hm
        have := t3 g' hg'; rw [h.wS] at this; simp at this
end Go.Proofs.Ytagjmpdimphfaaa.rg
