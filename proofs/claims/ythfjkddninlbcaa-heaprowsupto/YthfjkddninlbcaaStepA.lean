import Derived.Test.YthfjkddninlbcaaStep
import Derived.Deep.CutRange
namespace Go.Proofs.Ythfjkddninlbcaa.hp
open Go.ChangeShapes Go.WideShapes Go.ChangeAt Go.RowKit
set_option linter.unusedVariables false
theorem wc_set4 (S : Nat → SD) (av av' : Value) : (wc S av).setIfInBounds 4 av' = wc S av' := rfl
/-- the list of all grows -/
theorem WS.grow {w0 w V w4 : World} {W : Nat} {S : Nat → SD} {av av' : Value} {A : List E} (h : WS w0 w W S av A) (aW : Apart [] w V) (gr : V.grownBy w4 av.ownBlock) (e : E) (own4 : w4.ownsRow 0 28 2 av' (A.length + 1) (flat2 A ++ [.int .i64 e.r, .int .i64 e.m])) (nw : NewOr V av av') (hA : A.length < 1200000) :
    w4.heap[W]? = some (.cells (wc S av) 61 (0, 0)) ∧ WS w0 (w4.setCell ⟨W, 4, none⟩ av') W S av' (A ++ [e]) ∧ ∀ (k : Nat) (c : Array Value), V.heap[k]? = some (.cells c 63 (0, 0)) → (w4.setCell ⟨W, 4, none⟩ av').heap[k]? = some (.cells c 63 (0, 0)) := by
  have hV := h.kept aW
  have ap4 : Apart av.ownBlock.toList V w4 := apart_grown gr
  have nid : ∀ (k : Nat) (c : Array Value) (t : TypeId), V.heap[k]? = some (.cells c t (0, 0)) → t ≠ 28 → k ∉ av.ownBlock.toList := by
    intro k c t hk h1 m
    obtain ⟨c2, e2⟩ := own_typ hV.all (k := k) (by simpa using m)
    rw [hk] at e2; simp at e2; exact h1 e2.2
  have hW4 := (ap4.block W (lt_of_heap hV.hW) (nid W _ _ hV.hW (by decide))).trans hV.hW
  have a2 : Apart [W] w4 (w4.setCell ⟨W, 4, none⟩ av') := (Apart.refl _ _).setCell (by simp) _
  have a5 : Apart (W :: av.ownBlock.toList) V (w4.setCell ⟨W, 4, none⟩ av') := (ap4.mono (by simp +contextual)).trans (a2.mono (by simp))
  have nid5 : ∀ (k : Nat) (c : Array Value) (t : TypeId), V.heap[k]? = some (.cells c t (0, 0)) → t ≠ 28 → t ≠ 61 → k ∉ W :: av.ownBlock.toList := by
    intro k c t hk h1 h2 m
    rw [List.mem_cons] at m
    rcases m with rfl | m
    · rw [hV.hW] at hk; simp at hk; exact h2 hk.2.symm
    · exact nid k c t hk h1 m
  refine ⟨hW4, ⟨?_, fun i hi => ?_, fun i hi => ?_, ?_, by simp; omega, h.neH, h.neV, h.neL, h.nW, h.nH, fun k hk => ?_, hV.ap.trans' a5 ?_⟩, fun k c hk => (a5.block k (lt_of_heap hk) (nid5 k c _ hk (by decide) (by decide))).trans hk⟩
  · rw [heap_setCell_same _ _ _ _ _ _ hW4, wc_set4]
  · refine (hV.hp i hi).kept a5 (fun k hk => ⟨fun x => ?_, fun x => ?_⟩)
    · subst x; obtain ⟨c, e1⟩ := (hV.hp i hi).typ.1; exact nid5 _ c _ e1 (by decide) (by decide) hk
    · obtain ⟨c, e1⟩ := (hV.hp i hi).typ.2 k x; exact nid5 _ c _ e1 (by decide) (by decide) hk
  · refine (hV.rp i hi).kept a5 (fun k hk x => ?_)
    obtain ⟨c, e1⟩ := (hV.rp i hi).typ k x; exact nid5 _ c _ e1 (by decide) (by decide) hk
  · have := own_apart own4 a2 (fun k hk m => by
      simp at m; subst m
      obtain ⟨c, e2⟩ := own_typ own4 hk
      rw [hW4] at e2; simp at e2)
    rw [flat2_snoc] at this
    simpa using this
  · rcases nw with x | ⟨q, x, hq⟩
    · exact h.nA k (x ▸ hk)
    · rw [x] at hk; simp at hk; subst hk; have := h.ap.size; have := aW.size; omega
  · intro y hy
    rw [List.mem_cons] at hy
    rcases hy with rfl | hy
    · exact .inr h.nW
    · exact .inr (h.nA y (by simpa using hy))
theorem HP.keeps {w w' : World} {H : Nat} {v : Value} {row : List E} {n : Nat} (h : HP w H v row n) (a : Apart (ids H v) w w') {k : Nat} {c : Array Value} {t : TypeId} (hk : w.heap[k]? = some (.cells c t (0, 0))) (h1 : t ≠ 49) (h2 : t ≠ 51) : w'.heap[k]? = some (.cells c t (0, 0)) := by
  refine (a.block k (lt_of_heap hk) (fun m => ?_)).trans hk
  simp [ids] at m
  rcases m with rfl | m
  · obtain ⟨c2, e⟩ := h.typ.1; rw [hk] at e; simp at e; exact h1 e.2
  · obtain ⟨c2, e⟩ := h.typ.2 k m; rw [hk] at e; simp at e; exact h2 e.2
/-- the step's own copy of the call -/
structure Op4 (w : World) (B : Nat) (who kind a b : Int) : Prop where
  hb : w.heap[B]? = some (.cells #[.int .i64 who, .int .i64 kind, .int .i64 a, .int .i64 b] 63 (0, 0))
theorem Op4.c2 {w : World} {B : Nat} {who kind a b : Int} (h : Op4 w B who kind a b) : w.cell? ⟨B, 2, none⟩ = some (.int .i64 a) := by rw [cell_of_row _ _ _ _ _ _ h.hb]; rfl
theorem Op4.c3 {w : World} {B : Nat} {who kind a b : Int} (h : Op4 w B who kind a b) : w.cell? ⟨B, 3, none⟩ = some (.int .i64 b) := by rw [cell_of_row _ _ _ _ _ _ h.hb]; rfl
/-- what a step leaves -/
structure SP (w0 w' : World) (W : Nat) (t : Nat) : Prop where
  ex : ∃ S av A, WS w0 w' W S av A ∧ (∀ i, i < 2 → Good A (S i)) ∧ A.length ≤ t ∧ ∀ i, i < 2 → (S i).n ≤ t ∧ (S i).L.length ≤ t
theorem good_upd {A : List E} {S : Nat → SD} {i : Nat} {s : SD} (h : ∀ j, j < 2 → Good A (S j)) (hs : Good A s) : ∀ j, j < 2 → Good A (upd S i s j) := by
  intro j hj
  by_cases e : j = i
  · subst e; rw [upd_same]; exact hs
  · rw [upd_other _ _ _ _ e]; exact h j hj
theorem upd_upd (S : Nat → SD) (i : Nat) (s t : SD) : upd (upd S i s) i t = upd S i t := by
  funext j
  by_cases e : j = i
  · subst e; rw [upd_same, upd_same]
  · rw [upd_other _ _ _ _ e, upd_other _ _ _ _ e, upd_other _ _ _ _ e]
end Go.Proofs.Ythfjkddninlbcaa.hp
