import Derived.Test.YtokaeiahhmaokaaC1
import Derived.Lib.Overlaps
import Derived.Lib.AppendZerosOnto
import Derived.Laws.NewBlocks
import Derived.Laws.Externs
import Derived.Laws.IdiomCopy
namespace Go.Proofs.Ytokaeiahhmaokaa.ds
open Go.ChangeShapes Go.WideShapes Go.ChangeAt Go.RowKit Go.Sort
set_option linter.unusedVariables false
set_option linter.unusedSimpArgs false
theorem run_appE2 {w W : World} {s : Sl} {es : List E} (h : OwnE w W s es) (hn : s.n ≤ 2000000) (u : E) (B : Nat) (hB : Cap W B u) (ty : TypeId) :
    ∃ s' W', (Builtin.append_ #[34, 34] ty #[s.v, .slice (some ⟨B, 0, none⟩) 1 1]).run Try.prog W = .ok (Sl.v s') W' ∧ OwnE w W' s' (es ++ [u]) := by
  obtain ⟨i0, hi, hz0, hz1, hz2⟩ := info_parts infoW
  have hcs : ∀ j v, (E.cs u)[j]? = some v → W.cell? ((⟨B, 0, none⟩ : Addr).add j) = some v := by
    intro j v hj
    rw [Addr.add_lit, Nat.zero_add, cell_of_row _ _ _ _ _ _ hB]
    simpa [E.cs] using hj
  obtain ⟨s', W', hrun, r1, r2, _⟩ := run_appS 34 ty 28 i0 _ 6 88 Try.underlying34 hi hz0 hz1 hz2 rfl (by decide) h.nw ⟨B, 0, none⟩ 1 1 (E.cs u) (by simp) (by simp [E.cs]) hcs (fun v hv => oneE [u] v (by simpa [flatE] using hv)) (by unfold maxLen; omega) (by omega)
  exact ⟨s', W', hrun, ⟨by rw [← flatE_snoc]; exact r1, by rw [List.length_append, h.len, r2]; rfl⟩⟩
theorem OwnE.cap {w W : World} {s : Sl} {l : List E} (h : OwnE w W s l) : s.n ≤ s.c ∧ s.c ≤ 9223372036854775807 ∧ (s.p = none → s.n = 0 ∧ s.c = 0) := by
  obtain ⟨_, ⟨hv, hz⟩ | ⟨g, cap, cur, hv, _, _, hle, hmx, _⟩⟩ := h.nw.own
  · unfold Sl.v at hv; simp at hv; exact ⟨by omega, by omega, fun _ => ⟨hz, hv.2.2⟩⟩
  · unfold Sl.v at hv
    simp at hv
    refine ⟨by omega, by unfold maxLen at hmx; omega, fun e => ?_⟩
    rw [hv.1] at e; cases e
set_option maxHeartbeats 4000000 in
set_option maxRecDepth 100000 in
theorem ins_end (w W : World) (s : Sl) (l : List E) (u : E) (B : Nat) (h : OwnE w W s l) (hn : s.n ≤ 1500000) (hB : Cap W B u) : Calls Try.prog 32 #[s.v, .int .i64 (s.n : Int), .slice (some ⟨B, 0, none⟩) 1 1] W fun r W' => ∃ s', r = .returned (Sl.v s') ∧ OwnE w W' s' (l ++ [u]) := by
  obtain ⟨s', W', hrun, own⟩ := run_appE2 h (by omega) u B hB 34
  have hc := h.cap
  have HO := hid own
  clear own hB
  obtain ⟨p, n, c⟩ := s
  unfold Sl.v at hrun ⊢
  simp only at hc hn
  obtain ⟨hc1, hc2, hc3⟩ := hc
  cases p with
  | none =>
    obtain ⟨rfl, rfl⟩ := hc3 rfl
    clear h hc3
    go_enter Try.func32, Try.ntmps32
    go_wp2_with (at_builtin; refine wpList_append3 rfl (.tmp 23) (.tmp 24) 34 rfl _ _ rfl rfl _ _ hrun ?_)
    go_wp2
    go_ret
    exact ⟨s', rfl, HO.out⟩
  | some a =>
    clear h hc3
    go_enter Try.func32, Try.ntmps32
    go_wp2_with (at_builtin; refine wpList_append3 rfl (.tmp 23) (.tmp 24) 34 rfl _ _ rfl rfl _ _ hrun ?_)
    all_goals (go_wp2; go_ret; exact ⟨s', rfl, HO.out⟩)
end Go.Proofs.Ytokaeiahhmaokaa.ds
