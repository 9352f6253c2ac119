import Derived.Test.YtdbeeikjngnnnaaT56
namespace Go.Proofs.Ytdbeeikjngnnnaa.ty
open Go.ChangeShapes Go.WideShapes Go.ChangeAt Go.RowKit
set_option linter.unusedVariables false
set_option linter.unusedSimpArgs false
theorem form_ne (v : Vl) : formV v ≠ [] := by
  cases v using Vl.el <;> simp [formV, setB]
theorem valV_nil (k : Nat) : valV k [] = new0 k := by
  unfold valV
  rw [if_neg]
  rintro ⟨-, h⟩
  unfold rdOk at h
  simp only [Bool.and_eq_true, decide_eq_true_eq] at h
  exact form_ne _ h.2
/-- a value that may be, and of few elements -/
structure Gk (k n : Nat) (v : Vl) : Prop where
  gd : Gd v
  le : (elsR v).length ≤ n
  kd : v.kd = k
theorem Gk.mg {k n m : Nat} {v o : Vl} (h : Gk k n v) (g : Gk k m o) : Gk k (n + m) (mgV v o) := ⟨mgV_gd h.gd g.gd (h.kd.trans g.kd.symm), by have := mgV_els v o; have := h.le; have := g.le; omega, (mgV_kd v o).trans h.kd⟩
theorem Gk.ok {k n : Nat} {v : Vl} (h : Gk k n v) (hn : n ≤ 200 := by omega) : Ok v := h.gd.ok (by have := h.le; omega)
theorem Gk.okF {k n : Nat} {v : Vl} (h : Gk k n v) (hn : n ≤ 200 := by omega) : OkF v := h.gd.okF (by have := h.le; omega)
theorem Gk.val {k : Nat} (h1 : 1 ≤ k) (h4 : k ≤ 4) {bs : List Nat} (h8 : U8 bs) : Gk k 32 (valV k bs) := by
  obtain ⟨a, b, c⟩ := valV_gd h1 h4 h8
  exact ⟨a, b, c⟩
theorem Gk.new {k : Nat} (h1 : 1 ≤ k) (h4 : k ≤ 4) : Gk k 32 (new0 k) := by
  have := Gk.val h1 h4 (bs := []) (by intro x hx; simp at hx)
  rwa [valV_nil] at this
end Go.Proofs.Ytdbeeikjngnnnaa.ty
