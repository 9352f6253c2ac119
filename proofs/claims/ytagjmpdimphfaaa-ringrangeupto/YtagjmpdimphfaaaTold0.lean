import Derived.Test.YtagjmpdimphfaaaShelf
namespace Go.Proofs.Ytagjmpdimphfaaa.rg
open Go.ChangeShapes Go.WideShapes Go.ChangeAt Go.RowKit
set_option linter.unusedVariables false
set_option linter.unusedSimpArgs false
theorem append_nilnil (w : World) (ty : TypeId) : (Builtin.append_ #[28, 28] ty #[.slice none 0 0, .slice none 0 0]).run Try.prog w = .ok (.slice none 0 0) w := by
  kernel_rfl
/-- a copy of a list -/
theorem copy_run {w : World} {p : Option Addr} {n cap : Nat} {zs : List Int} (ha : (An.mk p n cap zs).At w) (hn : n ≤ 1000) (ty : TypeId) :
    ∃ p' cap' w', (Builtin.append_ #[28, 28] ty #[.slice none 0 0, .slice p n cap]).run Try.prog w = .ok (.slice p' n cap') w' ∧ (An.mk p' n cap' zs).At w' ∧ Apart [] w w' ∧ ∀ b, (An.mk p' n cap' zs).blk = some b → w.heap.size ≤ b := by
  rcases ha with ⟨h1, h2, h3, h4⟩ | ⟨P, o, h1, h2⟩
  · simp only at h1 h2 h3 h4
    subst h1; subst h2; subst h3; subst h4
    exact ⟨none, 0, w, append_nilnil w ty, .inl ⟨rfl, rfl, rfl, rfl⟩, Apart.refl _ _, fun b hb => by cases hb⟩
  · simp only at h1 h2
    subst h1
    obtain ⟨i0, hi, hz0, hz1, hz2⟩ := info_parts info3
    have hl := h2.len
    obtain ⟨v', w', hrun, r1, r2, _⟩ := run_append_own (P := Try.prog) w w.heap.size 28 ty 3 i0 (.int .i64 0) 1 8 Try.underlying28 hi hz0 hz1 hz2 rfl (by decide) (.slice none 0 0) 0 [] (World.ownsRow_nil w _ 3 1) ⟨P, o, none⟩ n cap (flZ zs) (by simp [flZ, hl]) h2.ir.news (fun u hu => flZ_one hu) (by unfold maxLen; omega) (by omega) (Nat.le_refl _)
    have ap : Apart [] w w' := (apart_grown r2).mono (by simp [Value.ownBlock])
    rw [Nat.zero_add, List.nil_append] at r1
    obtain ⟨hxl, ⟨rfl, hz⟩ | ⟨g, cap', cur, rfl, hb, hr, hle, hcm, hcs, htk⟩⟩ := id r1
    · subst hz
      have : zs = [] := by simpa using hl
      subst this
      exact ⟨none, 0, w', hrun, .inl ⟨rfl, rfl, rfl, rfl⟩, ap, fun b hb => by cases hb⟩
    · refine ⟨some ⟨g, 0, none⟩, cap', w', hrun, .inr ⟨g, 0, rfl, ⟨⟨cur, hr, (by show 0 + cap' ≤ cur.size; omega), hcm, fun i hi => ?_⟩, hle, hl⟩⟩, ap, fun b hbb => ?_⟩
      · have hc := r1.cellAt i (by simp only at hi; omega)
        rw [cell_of_row _ _ _ _ _ _ hr] at hc
        rw [Nat.zero_add, hc]
        have hil : i < zs.length := by simp only at hi; omega
        simp [flZ, List.getD_eq_getElem?_getD, List.getElem?_eq_getElem hil]
      · simp [An.blk] at hbb; omega
theorem step_append3 {w : World} {ops : Array Oper} {o : Oper} {a : Act} {K : Act → World → Prop} {Q : Exit → Act → World → Prop} {E : Prop} (hgd : o.guard = none) (s x : Operand) (t : TypeId)
    (ho : o.op = .call { callee := .builtin .append, args := #[s, x], argTypes := #[t, t] }) (v u : Value) (hs : a.eval s = v) (hx : a.eval x = u) (v' : Value) (w' : World)
    (hrun : (Builtin.append_ #[t, t] o.type #[v, u]).run Try.prog w = .ok v' w') (hK : K (a.put o.dst v') w') : if Region.wanted o (yielded ops a.tmps) = true then Oper.wp Try.prog o a w K Q else E := by
  have hw : Region.wanted o (yielded ops a.tmps) = true := by simp [Region.wanted, hgd]
  rw [if_pos hw]
  unfold Oper.wp
  simp [execOp, ho, resolve, invoke, builtin, hs, hx, hrun, Result.andThen]
  exact hK
end Go.Proofs.Ytagjmpdimphfaaa.rg
