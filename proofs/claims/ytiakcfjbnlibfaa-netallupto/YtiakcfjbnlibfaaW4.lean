import Derived.Test.YtiakcfjbnlibfaaW3
namespace Go.Proofs.Ytiakcfjbnlibfaa.nt
open Go.ChangeShapes Go.WideShapes Go.ChangeAt Go.RowKit
set_option linter.unusedVariables false
set_option linter.unusedSimpArgs false
/-- what a step does to who has what, and to the memory -/
structure Stp (w w' : World) (who who' : Nat → Option Nat) (q : Option Nat) : Prop where
  old : ∀ k s, who k = some s → who' k = some s
  new : ∀ k s, who' k = some s → who k = some s ∨ w.heap.size ≤ k ∨ q = some k
  ap : ∃ X, Apart X w w' ∧ ∀ k ∈ X, who k ≠ none ∨ w.heap.size ≤ k ∨ q = some k
theorem Stp.refl (w : World) (who : Nat → Option Nat) (q : Option Nat) : Stp w w who who q := ⟨fun _ _ h => h, fun _ _ h => .inl h, [], Apart.refl _ _, by simp⟩
theorem Stp.trans {w w' w2 : World} {who who' who2 : Nat → Option Nat} {q : Option Nat} (h : Stp w w' who who' q) (k : Stp w' w2 who' who2 q) : Stp w w2 who who2 q := by
  obtain ⟨X, aX, hX⟩ := h.ap
  obtain ⟨Y, aY, hY⟩ := k.ap
  have hs := aX.size
  refine ⟨fun j s e => k.old j s (h.old j s e), fun j s e => ?_, X ++ Y, (aX.mono (fun x hx => List.mem_append_left _ hx)).trans (aY.mono (fun x hx => List.mem_append_right _ hx)), fun j hj => ?_⟩
  · rcases k.new j s e with e | e | e
    · exact h.new j s e
    · exact .inr (.inl (by omega))
    · exact .inr (.inr e)
  · rcases List.mem_append.1 hj with hj | hj
    · exact hX j hj
    · rcases hY j hj with e | e | e
      · cases ew : who' j with
        | none => exact absurd ew e
        | some s =>
          rcases h.new j s ew with e | e | e
          · left; rw [e]; simp
          · exact .inr (.inl e)
          · exact .inr (.inr e)
      · exact .inr (.inl (by omega))
      · exact .inr (.inr e)
theorem Stp.ap0 {w w' : World} {who : Nat → Option Nat} {q : Option Nat} (a : Apart [] w w') : Stp w w' who who q := ⟨fun _ _ h => h, fun _ _ h => .inl h, [], a, by simp⟩
theorem Stp.row {w w' : World} {who : Nat → Option Nat} {q : Option Nat} {X : List Nat} (a : Apart X w w') (hX : ∀ k ∈ X, who k ≠ none ∨ w.heap.size ≤ k ∨ q = some k) : Stp w w' who who q := ⟨fun _ _ h => h, fun _ _ h => .inl h, X, a, hX⟩
theorem Stp.tag {w : World} {who : Nat → Option Nat} {q : Option Nat} {t : Nat} (h : ∀ k s, who k = some s → whoP who q t k = some s) : Stp w w who (whoP who q t) q := ⟨h, fun k s e => (whoP_new e).elim (fun e => .inr (.inr e.1)) .inl, [], Apart.refl _ _, by simp⟩
theorem apart_unset {X : List Nat} {w w2 : World} {P f : Nat} {v : Value} (a : Apart X w (w2.setCell ⟨P, f, none⟩ v)) : Apart (P :: X) w w2 := by
  have hs : (w2.setCell ⟨P, f, none⟩ v).heap.size = w2.heap.size := by simp [World.setCell]
  refine ⟨a.os, a.tape, a.output, by have := a.size; omega, fun k hk hx => ?_⟩
  have h1 := a.block k hk (fun m => hx (List.mem_cons_of_mem _ m))
  have ag : Apart [P] w2 (w2.setCell ⟨P, f, none⟩ v) := (Apart.refl [P] w2).setCell (by simp) _
  rw [← h1]
  exact (ag.block k (by have := a.size; omega) (fun m => hx (by simp at m; simp [m]))).symm
/-- append to a field's list and the store: the step -/
theorem PQ.app2 {wa w : World} {P : Nat} {p : Px} {who : Nat → Option Nat} {l : Nat → List Value} (h : PQ wa w P p who l) (f : Nat) (hf : f ∈ fs) (x : Value) (hx : x.oneCell' = true) (hl : (l f).length ≤ 100000) {q : Option Addr} {cp : Nat} (hc : w.cell? ⟨P, f, none⟩ = some (.slice q (l f).length cp)) (ty : TypeId) (b : Option Nat) :
    ∃ p' cp' w2 who', (Builtin.append_ #[sty f, sty f] ty #[.slice q (l f).length cp, .slice (some ⟨w.heap.size, 0, none⟩) 1 1]).run Try.prog (w.alloc (.cells #[x] (ety f))) = .ok (.slice p' ((l f).length + 1) cp') w2 ∧ (∃ y, w2.cell? ⟨P, f, none⟩ = some y) ∧ w2.frozen? ⟨P, f, none⟩ = false ∧
      PQ wa (w2.setCell ⟨P, f, none⟩ (.slice p' ((l f).length + 1) cp')) P p who' (updC l f (l f ++ [x])) ∧ Stp w (w2.setCell ⟨P, f, none⟩ (.slice p' ((l f).length + 1) cp')) who who' b ∧ ∃ X, Apart X w w2 ∧ Apart X w (w2.setCell ⟨P, f, none⟩ (.slice p' ((l f).length + 1) cp')) ∧ ∀ k ∈ X, who k = some 0 ∨ who k = some (f + 10) := by
  obtain ⟨p', cp', w2, who', h1, h2, h3, h4, h5, h6, X, a, hX⟩ := h.app f hf x hx hl hc ty
  refine ⟨p', cp', w2, who', h1, h2, h3, h4, ⟨h5, fun k s e => (h6 k s e).imp id (fun e => .inl e.1), X, a, fun k hk => ?_⟩, P :: X, apart_unset a, a.mono (fun y hy => List.mem_cons_of_mem _ hy), fun k hk => ?_⟩
  · left
    rcases hX k hk with e | e <;> rw [e] <;> simp
  · rcases List.mem_cons.1 hk with rfl | hk
    · exact .inl h.sm.wS
    · exact hX k hk
theorem cof_lf (x : Sx) (e : Sl × List Nat) (f : Nat) (hf : f ∈ fs) : updC (updC x.cof 8 (x.cof 8 ++ [.slice e.1.p e.1.n e.1.c])) 9 (x.cof 9 ++ [.string (strB e.2)]) f = Sx.cof { x with lf := x.lf ++ [e] } f := by
  simp only [fs, List.mem_cons, List.not_mem_nil, or_false] at hf
  rcases hf with rfl | rfl | rfl | rfl | rfl | rfl | rfl | rfl <;> simp [updC, Sx.cof, Sl.v]
end Go.Proofs.Ytiakcfjbnlibfaa.nt
