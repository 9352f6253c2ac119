import Derived.Test.YtiakcfjbnlibfaaW5
namespace Go.Proofs.Ytiakcfjbnlibfaa.nt
open Go.ChangeShapes Go.WideShapes Go.ChangeAt Go.RowKit
set_option linter.unusedVariables false
set_option linter.unusedSimpArgs false
theorem own_sub {w : World} {e G n c : Nat} {us : List Value} (h : w.ownsRow 0 e 1 (.slice (some ⟨G, 0, none⟩) n c) n us) (m : Nat) (hm : m ≤ n) : w.ownsRow 0 e 1 (.slice (some ⟨G, 0, none⟩) m c) m (us.take m) := by
  obtain ⟨hxl, ⟨hv, hz⟩ | ⟨g, cap, cur, hv, hb, hr, hle, hmx, hcs, htk⟩⟩ := h
  · simp at hv
  · simp at hv
    obtain ⟨rfl, rfl⟩ := hv
    refine ⟨by rw [List.length_take]; omega, .inr ⟨G, c, cur, rfl, hb, hr, by omega, hmx, hcs, ?_⟩⟩
    rw [← htk, List.take_take, Nat.min_eq_left (by omega), Nat.mul_one]
/-- a byte answer s, and what was appended to it: d -/
structure App (wk w : World) (s d : Sl) (us ex : List Value) : Prop where
  o : w.ownsRow 0 5 1 d.v d.n (us ++ ex)
  k : w.ownsRow 0 5 1 s.v s.n us
  n : d.n = s.n + ex.length
  h : (∃ g, s.p = some ⟨g, 0, none⟩ ∧ d.p = some ⟨g, 0, none⟩ ∧ d.c = s.c) ∨ (∀ k, d.v.ownBlock = some k → wk.heap.size ≤ k)
  ap : Apart s.v.ownBlock.toList wk w
theorem App.more {wk w : World} {s d : Sl} {us ex : List Value} (h : App wk w s d us ex) (hsl : ∀ k, s.v.ownBlock = some k → k < wk.heap.size) (cs : List Value) (m : Nat) (hm : 0 < m) (hcl : cs.length = m) (one : ∀ u ∈ cs, u.oneCell' = true) (hb : d.n + m ≤ 100000000) :
    ∃ d' w', (Builtin.append_ #[28, 28] 28 #[.slice d.p d.n d.c, .slice (some ⟨w.heap.size, 0, none⟩) m m]).run Try.prog (w.alloc (.cells cs.toArray 5)) = .ok (.slice d'.p d'.n d'.c) w' ∧ App wk w' s d' us (ex ++ cs) := by
  obtain ⟨i0, hi, hz0, hz1, hz2⟩ := info_parts infoB
  have a1 : Apart [] w (w.alloc (.cells cs.toArray 5)) := (Apart.refl [] w).alloc _
  have hcs : ∀ j u, cs[j]? = some u → (w.alloc (.cells cs.toArray 5)).cell? ((⟨w.heap.size, 0, none⟩ : Addr).add j) = some u := by
    intro j u hj
    rw [Addr.add_lit, Nat.zero_add, cell_of_row _ _ _ _ _ _ (heap_alloc_new w (.cells cs.toArray 5))]
    simpa using hj
  have ho := own_apart h.o a1 (by simp)
  have hk := own_apart h.k a1 (by simp)
  have hol := h.o.1
  have hml : d.n + m ≤ maxLen := by unfold maxLen; omega
  obtain ⟨sp, sn, sc⟩ := s
  obtain ⟨dp, dn, dc⟩ := d
  have hdn : dn = sn + ex.length := h.n
  have hus : us.length = sn * 1 := h.k.1
  have hwk := h.ap.size
  have hgrow : ∀ (v' : Value) (w' : World), w'.ownsRow (w.alloc (.cells cs.toArray 5)).heap.size 5 1 v' (dn + m) ((us ++ ex) ++ cs) → (w.alloc (.cells cs.toArray 5)).grownBy w' none → ∃ d' : Sl, v' = .slice d'.p d'.n d'.c ∧ App wk w' ⟨sp, sn, sc⟩ d' us (ex ++ cs) := fun v' w' r1 r2 => by
    have ap2 : Apart [] (w.alloc (.cells cs.toArray 5)) w' := apart_grown r2
    obtain ⟨_, ⟨_, hzz⟩ | ⟨g', cap', cur', rfl, hb2, hrest⟩⟩ := id r1
    · omega
    · have h1 := a1.size
      refine ⟨⟨some ⟨g', 0, none⟩, dn + m, cap'⟩, rfl, ⟨?_, own_apart hk ap2 (by simp), by show dn + m = sn + (ex ++ cs).length; simp; omega, .inr (fun k hk => by simp [Sl.v, Value.ownBlock] at hk; omega), h.ap.trans' (a1.trans ap2) (by simp)⟩⟩
      have := own_base r1 (Nat.zero_le _)
      rwa [List.append_assoc] at this
  cases dp with
  | none =>
    obtain ⟨_, ⟨hv, hz⟩ | ⟨g, cap, cur, hv, _⟩⟩ := id ho
    · have hd0 : dn = 0 := hz
      have hc0 : dc = 0 := by simp [Sl.v] at hv; exact hv.2
      subst hd0 hc0
      have hue : us ++ ex = [] := List.eq_nil_of_length_eq_zero (by simpa using hol)
      obtain ⟨v', w', hrun, r1, r2, _⟩ := run_append_own (P := Try.prog) (w.alloc (.cells cs.toArray 5)) (w.alloc (.cells cs.toArray 5)).heap.size 28 28 5 i0 _ 1 1 Try.underlying28 hi hz0 hz1 hz2 rfl (by decide) (.slice none 0 0) 0 [] (World.ownsRow_nil _ _ 5 1) ⟨w.heap.size, 0, none⟩ m m cs (by omega) hcs one hml (by omega) (Nat.le_refl _)
      have r1' : w'.ownsRow (w.alloc (.cells cs.toArray 5)).heap.size 5 1 v' (0 + m) ((us ++ ex) ++ cs) := by rw [hue]; exact r1
      obtain ⟨d', hv', hA⟩ := hgrow v' w' r1' r2
      exact ⟨d', w', by rw [hrun, hv'], hA⟩
    · simp [Sl.v] at hv
  | some ad =>
    obtain ⟨_, ⟨hv, hz⟩ | ⟨g, cap, cur, hv, hbb, hr, hle, hrest⟩⟩ := id ho
    · simp [Sl.v] at hv
    · simp only [Sl.v, Value.slice.injEq, Option.some.injEq] at hv
      obtain ⟨rfl, _, rfl⟩ := hv
      by_cases hroom : dn + m ≤ dc
      · obtain ⟨w', hrun, r1, r2⟩ := run_append_own_spare (P := Try.prog) (w.alloc (.cells cs.toArray 5)) 0 28 28 5 i0 1 Try.underlying28 hi hz1 g dn dc (us ++ ex) ho ⟨w.heap.size, 0, none⟩ m m cs (by omega) hcs one hroom
        have ap2 : Apart [g] (w.alloc (.cells cs.toArray 5)) w' := by simpa using apart_grown r2
        refine ⟨⟨some ⟨g, 0, none⟩, dn + m, dc⟩, w', hrun, ?_⟩
        have r1' : w'.ownsRow 0 5 1 (.slice (some ⟨g, 0, none⟩) (dn + m) dc) (dn + m) (us ++ (ex ++ cs)) := by rwa [List.append_assoc] at r1
        rcases h.h with ⟨g0, e1, e2, e3⟩ | hn
        · simp only [Option.some.injEq, Addr.mk.injEq] at e1 e2 e3
          obtain ⟨rfl, _⟩ := e2
          subst e1 e3
          refine ⟨r1', ?_, by show dn + m = sn + (ex ++ cs).length; simp; omega, .inl ⟨g, rfl, rfl, rfl⟩, h.ap.trans ((a1.mono (by simp)).trans (ap2.mono (by simp [Sl.v, Value.ownBlock])))⟩
          have := own_sub r1' sn (by omega)
          rwa [List.take_append_of_le_length (by omega), List.take_of_length_le (by omega)] at this
        · have hg : wk.heap.size ≤ g := hn g rfl
          refine ⟨r1', own_apart hk ap2 (fun k hk2 hm2 => by simp at hm2; have := hsl k hk2; omega), by show dn + m = sn + (ex ++ cs).length; simp; omega, .inr (fun k hk2 => by simp [Sl.v, Value.ownBlock] at hk2; omega), (h.ap.trans (a1.mono (by simp))).trans' ap2 (by simp; exact .inr hg)⟩
      · obtain ⟨v', w', hrun, r1, r2⟩ := run_append_arg_grows (P := Try.prog) (w.alloc (.cells cs.toArray 5)) 28 28 5 i0 _ 1 1 Try.underlying28 hi hz0 hz1 hz2 rfl (by decide) ⟨g, 0, none⟩ dn dc (us ++ ex) (by simpa using hol) (fun j u hu => ho.cells rfl j u hu) ⟨w.heap.size, 0, none⟩ m m cs (by omega) hcs (by omega) hml (by show (dn + m) * 1 ≤ _; have : dn + m ≤ 100000000 := hb; omega)
        obtain ⟨d', hv', hA⟩ := hgrow v' w' r1 r2
        exact ⟨d', w', by rw [hrun, hv'], hA⟩
end Go.Proofs.Ytiakcfjbnlibfaa.nt
