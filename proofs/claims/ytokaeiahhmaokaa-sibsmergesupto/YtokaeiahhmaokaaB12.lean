import Derived.Test.YtokaeiahhmaokaaB11
import Derived.Laws.AppendOwnNone
namespace Go.Proofs.Ytokaeiahhmaokaa.ds
open Go.ChangeShapes Go.WideShapes Go.ChangeAt Go.RowKit Go.Sort
set_option linter.unusedVariables false
set_option linter.unusedSimpArgs false
/-- append to nil -/
theorem run_appNil (w : World) (t ty e : TypeId) (i : TypeInfo) (z : Value) (size bytes : Nat) (ht : Try.prog.underlying t = some (.slice e)) (hi : Try.prog.info? e = some i) (hz : i.zero = some z) (hsize : i.size = size) (hby : i.bytes = bytes) (hzs : z.cells.size = size) (hsz : 0 < size)
    (s : Sl) (us : List Value) (h : Rd w s.p us) (hl : us.length = s.n * size) (one : ∀ u ∈ us, u.oneCell' = true) (h63 : s.n ≤ 2000000) (hb : s.n * bytes ≤ 140737488355328) (ok : s.ok) :
    ∃ s' w', (Builtin.append_ #[t, t] ty #[.slice none 0 0, s.v]).run Try.prog w = .ok (Sl.v s') w' ∧ Nw w w' e size s' us ∧ s'.n = s.n := by
  obtain ⟨p, N, c⟩ := s
  unfold Sl.ok at ok
  simp only at h hl h63 hb ok
  cases p with
  | none =>
    obtain ⟨rfl, rfl⟩ := ok rfl
    have hu : us = [] := List.length_eq_zero_iff.1 (by omega)
    subst hu
    exact ⟨⟨none, 0, 0⟩, w, run_append_owned_none (P := Try.prog) w 0 t ty e i size ht hi (.slice none 0 0) 0 [] (World.ownsRow_nil _ _ _ _), ⟨World.ownsRow_nil _ _ _ _, by simp [Sl.v, Value.ownBlock], Apart.refl _ _⟩, rfl⟩
  | some ad =>
    have hcs : ∀ j u, us[j]? = some u → w.cell? (ad.add j) = some u := by
      intro j u hj
      have hjl : j < us.length := by
        by_cases hc : j < us.length
        · exact hc
        · rw [List.getElem?_eq_none (by omega)] at hj; cases hj
      obtain ⟨P, o, e1, hP, hc⟩ := h (by omega)
      simp at e1
      subst e1
      rw [Addr.add_lit]
      exact hc j u hj
    obtain ⟨v', w', hrun, r1, r2, r3⟩ := run_append_own (P := Try.prog) (w := w) w.heap.size t ty e i z size bytes ht hi hz hsize hby hzs hsz (.slice none 0 0) 0 [] (World.ownsRow_nil _ _ _ _) ad N c us hl hcs one (by unfold maxLen; omega) (by simpa using hb) (Nat.le_refl _)
    rw [Nat.zero_add, List.nil_append] at r1
    have ap : Apart [] w w' := by have := apart_grown r2; simpa [Value.ownBlock] using this
    have hnew : ∀ k, v'.ownBlock = some k → w.heap.size ≤ k := fun k hk => (r1.lt k hk).1
    have r0 := own_base r1 (Nat.zero_le _)
    obtain ⟨s', rfl, hs'⟩ : ∃ s' : Sl, v' = s'.v ∧ s'.n = N := by
      obtain ⟨_, ⟨hv, hz⟩ | ⟨g, cap, cur, hv, _⟩⟩ := r1
      · exact ⟨⟨none, 0, 0⟩, hv, hz.symm⟩
      · exact ⟨⟨some ⟨g, 0, none⟩, N, cap⟩, hv, rfl⟩
    exact ⟨s', w', hrun, ⟨by rw [hs']; exact r0, hnew, ap⟩, hs'⟩
theorem appB (w : World) (s : Sl) (r : List Nat) (ty : TypeId) (h : Rd w s.p (byts r)) (hl : r.length = s.n) (hn : s.n ≤ 2000000) (ok : s.ok) :
    ∃ s' w', (Builtin.append_ #[25, 25] ty #[.slice none 0 0, s.v]).run Try.prog w = .ok (Sl.v s') w' ∧ Nw w w' 5 1 s' (byts r) ∧ s'.n = s.n := by
  obtain ⟨i0, hi, hz0, hz1, hz2⟩ := info_parts infoB
  exact run_appNil w 25 ty 5 i0 _ 1 1 Try.underlying25 hi hz0 hz1 hz2 rfl (by decide) s _ h (by simp [byts, hl]) (oneB _) hn (by omega) ok
theorem L.rd {w : World} {p : Option Addr} {N : Nat} {xs : List S} (h : L w p N xs) : Rd w p (flat xs) := by
  intro h0
  obtain ⟨P, o, e1, hP, hc⟩ := h.sp (by rw [flat_length] at h0; omega)
  refine ⟨P, o, e1, hP, fun j u hj => ?_⟩
  have hsp := h.sp
  rw [e1] at hsp
  have := hsp.cells j u hj
  rwa [Addr.add_lit] at this
theorem appS (w : World) (s : Sl) (xs : List S) (ty : TypeId) (h : L w s.p s.n xs) (hn : s.n ≤ 2000000) (ok : s.ok) :
    ∃ s' w', (Builtin.append_ #[26, 26] ty #[.slice none 0 0, s.v]).run Try.prog w = .ok (Sl.v s') w' ∧ Nw w w' 38 3 s' (flat xs) ∧ s'.n = s.n := by
  obtain ⟨i0, hi, hz0, hz1, hz2⟩ := info_parts info52
  exact run_appNil w 26 ty 38 i0 _ 3 24 Try.underlying26 hi hz0 hz1 hz2 rfl (by decide) s _ h.rd (by rw [flat_length, h.len]) (oneFlat _) hn (by omega) ok
theorem wpList_appC {w : World} {ops : Array Oper} {rest : List Oper} {o : Oper} {a : Act} {Q : Exit → Act → World → Prop} (hgd : o.guard = none) (s x : Operand) (t : TypeId)
    (ho : o.op = .call { callee := .builtin .append, args := #[s, x], argTypes := #[t, t] }) (v u : Value) (hs : a.eval s = v) (hx : a.eval x = u) (v' : Value) (w' : World)
    (hrun : (Builtin.append_ #[t, t] o.type #[v, u]).run Try.prog w = .ok v' w') (hK : wpList Try.prog ops Q rest (a.put o.dst v') w') : wpList Try.prog ops Q (o :: rest) a w := wpList_append3 hgd s x t ho v u hs hx v' w' hrun hK
def put6 (w : World) (g : Nat) (a b c d e f : Value) : World := (((((w.setCell ⟨g, 0, none⟩ a).setCell ⟨g, 1, none⟩ b).setCell ⟨g, 2, none⟩ c).setCell ⟨g, 3, none⟩ d).setCell ⟨g, 4, none⟩ e).setCell ⟨g, 5, none⟩ f
theorem row6s {w : World} {g : Nat} {t : TypeId} {a b c d e f : Value} (h : w.heap[g]? = some (.cells #[a, b, c, d, e, f] t (0, 0))) (x0 x1 x2 x3 x4 x5 : Value) : (put6 w g x0 x1 x2 x3 x4 x5).heap[g]? = some (.cells #[x0, x1, x2, x3, x4, x5] t (0, 0)) := by
  have h1 := heap_setCell_same w g 0 _ t x0 h
  have h2 := heap_setCell_same _ g 1 _ t x1 h1
  have h3 := heap_setCell_same _ g 2 _ t x2 h2
  have h4 := heap_setCell_same _ g 3 _ t x3 h3
  have h5 := heap_setCell_same _ g 4 _ t x4 h4
  have h6 := heap_setCell_same _ g 5 _ t x5 h5
  unfold put6
  simpa using h6
theorem ap6 (w : World) (g : Nat) (a b c d e f : Value) : Apart [g] w (put6 w g a b c d e f) := (((((((Apart.refl _ _).setCell (.inl (by simp)) _).setCell (.inl (by simp)) _).setCell (.inl (by simp)) _).setCell (.inl (by simp)) _).setCell (.inl (by simp)) _).setCell (.inl (by simp)) _)
end Go.Proofs.Ytokaeiahhmaokaa.ds
