import Derived.Test.YtiakcfjbnlibfaaN16
import Derived.Test.YtiakcfjbnlibfaaN25
namespace Go.Proofs.Ytiakcfjbnlibfaa.nt
open Go.ChangeShapes Go.WideShapes Go.ChangeAt Go.RowKit Go.Deep
set_option linter.unusedVariables false
set_option linter.unusedSimpArgs false
theorem cells45 : Try.prog.cellsOf 45 = 7 := by kernel_rfl
theorem cells42 : Try.prog.cellsOf 42 = 1 := by kernel_rfl
/-- a call of a script that came in -/
theorem open_op {H : Type} {enc : TypeId × Value → H} {W : World} {fuel : Nat} {v0 v1 v2 v3 v4 v5 v6 : Value} {x : DataW H × List MemPlace} (h : DataW.trod enc Try.prog W 0 (fun _ => true) true fuel 45 [v0, v1, v2, v3, v4, v5, v6] = some x) (hb : Rows.uptoBulk x.1 ≤ 1048576) :
    ∃ (e : OpC), [v0, v1, v2, v3, v4, v5, v6] = OpC.cs e ∧ ReadsL W e.l e.x ∧ (-9223372036854775808 ≤ e.i ∧ e.i ≤ 9223372036854775807) ∧ (-9223372036854775808 ≤ e.j ∧ e.j ≤ 9223372036854775807) := by
  obtain ⟨xs, k, hk, hxy, _, hxl, hf⟩ := DataW.trod_struct Try.underlying45 h
  match xs, hxl with
  | [y0, y1, y2, y3, y4], _ =>
    have g0 := hf 0 _ rfl
    have g1 := hf 1 _ rfl
    have g2 := hf 2 _ rfl
    have g3 := hf 3 _ rfl
    have g4 := hf 4 _ rfl
    simp [cells3, cells30] at g0 g1 g2 g3 g4
    obtain ⟨k0, q0, _, _⟩ := DataW.trod_int Try.underlying3 g0
    obtain ⟨k1, q1, _, _⟩ := DataW.trod_int Try.underlying3 g1
    obtain ⟨k2, q2, _, wf2⟩ := DataW.trod_int Try.underlying3 g2
    obtain ⟨k3, q3, _, wf3⟩ := DataW.trod_int Try.underlying3 g3
    have hD : x.1 = .agg [y0.1, y1.1, y2.1, y3.1, y4.1] := by rw [hxy]; rfl
    rw [hD] at hb
    have hall := Nat.le_trans (agg_many _) hb
    obtain ⟨l, r, rfl, rfl, rfl, hr⟩ := open_letter g4 (Nat.le_trans (all_mem (by simp)) hall)
    simp only [List.cons.injEq, and_true] at q0 q1 q2 q3
    subst q0 q1 q2 q3
    have w2 : -9223372036854775808 ≤ k2 ∧ k2 ≤ 9223372036854775807 := by
      simp [Lit.wf, IntKind.bits, IntKind.signed, IntKind.min, IntKind.max] at wf2
      omega
    have w3 : -9223372036854775808 ≤ k3 ∧ k3 ≤ 9223372036854775807 := by
      simp [Lit.wf, IntKind.bits, IntKind.signed, IntKind.min, IntKind.max] at wf3
      omega
    exact ⟨⟨k0, k1, k2, k3, l, r⟩, rfl, hr, w2, w3⟩
theorem rd_flatO {W : World} {P : Nat} : ∀ (es : List OpC) (o : Nat), (∀ i, i < es.length → ∀ j v, (OpC.cs (gO es i))[j]? = some v → W.cell? ⟨P, o + i * 7 + j, none⟩ = some v) → ∀ j v, (flatO es)[j]? = some v → W.cell? ⟨P, o + j, none⟩ = some v
  | [], o, _ => fun j v hj => by simp [flatO] at hj
  | e :: l, o, h => fun j v hj => by
    have e1 : flatO (e :: l) = OpC.cs e ++ flatO l := rfl
    have el : (OpC.cs e).length = 7 := rfl
    rw [e1] at hj
    by_cases hj6 : j < 7
    · rw [List.getElem?_append_left (by omega)] at hj
      have := h 0 (by simp) j v hj
      simpa using this
    · rw [List.getElem?_append_right (by omega), el] at hj
      have := rd_flatO l (o + 7) (fun i hi k u hk => by
        have := h (i + 1) (by simpa using hi) k u hk
        rwa [show o + (i + 1) * 7 + k = o + 7 + i * 7 + k from by omega] at this) (j - 7) v hj
      rwa [show o + 7 + (j - 7) = o + j from by omega] at this
theorem gO_range (len : Nat) (f : Nat → OpC) (i : Nat) (hi : i < len) : gO ((List.range len).map f) i = f i := by
  unfold gO
  rw [List.getD_eq_getElem?_getD, List.getElem?_map, List.getElem?_range hi]; rfl
/-- a script that came in -/
theorem open_ops {H : Type} {enc : TypeId × Value → H} {W : World} {fuel : Nat} {v : Value} {x : DataW H × List MemPlace} (h : DataW.trod enc Try.prog W 0 (fun _ => true) true fuel 42 [v] = some x) (hb : Rows.uptoBulk x.1 ≤ 1048576) :
    ∃ (s : Sl) (es : List OpC), v = s.v ∧ InO W s es ∧ s.n ≤ 1048576 := by
  rcases open_slice Try.underlying42 h with ⟨hcs, _⟩ | ⟨a, len, cap, m, n, D, Pl, hcs, _, hl, hm, hmeq, hx, hall⟩
  · simp at hcs
    exact ⟨⟨none, 0, 0⟩, [], hcs, ⟨Rd.nil _ _, rfl, fun _ => ⟨rfl, rfl⟩, fun j hj => absurd hj (by simp), fun j hj => absurd hj (by simp)⟩, by decide⟩
  · simp only [if_true] at hmeq
    subst hmeq
    simp at hcs
    rw [hx] at hb
    have hball := Nat.le_trans (slice_many ((List.range len).map D) ((List.range (m - len)).map fun j => D (len + j))) hb
    have hlim : len ≤ 1048576 := by
      have h2 := many ((List.range len).map D)
      simp only [List.length_map, List.length_range] at h2
      omega
    by_cases h0 : 0 < len
    · obtain ⟨P, o, spot⟩ := a
      have hspot : spot = none := by
        obtain ⟨cs', h1, h2⟩ := hall 0 (by omega)
        rw [cells45] at h1
        obtain ⟨_, hlen, hcell⟩ := World.cells?_some h1
        have hc := hcell 0 (by omega)
        rw [List.getElem?_eq_getElem (by omega)] at hc
        have := World.cell?_spot hc
        simpa [Addr.add] using this
      subst hspot
      have each : ∀ i, i < len → ∃ d : OpC, (∀ j u, (OpC.cs d)[j]? = some u → W.cell? ⟨P, o + i * 7 + j, none⟩ = some u) ∧ ReadsL W d.l d.x ∧ (-9223372036854775808 ≤ d.i ∧ d.i ≤ 9223372036854775807) ∧ (-9223372036854775808 ≤ d.j ∧ d.j ≤ 9223372036854775807) := by
        intro i hi
        obtain ⟨cs', h1, h2⟩ := hall i (by omega)
        have hDi : Rows.uptoBulk (D i) ≤ 1048576 := Nat.le_trans (all_mem (List.mem_map.2 ⟨i, List.mem_range.2 hi, rfl⟩)) hball
        rw [cells45, Addr.add_lit] at h1
        obtain ⟨_, hlen, hcell⟩ := World.cells?_some h1
        match cs', hlen with
        | [v0, v1, v2, v3, v4, v5, v6], _ =>
          obtain ⟨e, he, hr, hn⟩ := open_op h2 hDi
          refine ⟨e, fun j u hj => ?_, hr, hn⟩
          have hj6 : j < 7 := by
            by_cases hq : j < 7
            · exact hq
            · rw [List.getElem?_eq_none (by show 7 ≤ j; omega)] at hj; cases hj
          have := hcell j hj6
          rw [Addr.add_lit, he] at this
          rw [this]
          exact hj
      obtain ⟨f, hf⟩ := @choose_lt OpC ⟨OpC.z⟩ _ _ each
      refine ⟨⟨some ⟨P, o, none⟩, len, m⟩, (List.range len).map f, hcs, ⟨fun _ => ⟨P, o, rfl, ?_, rd_flatO _ o (fun i hi => ?_)⟩, by simp, (fun e => by cases e), fun j hj => ?_, fun j hj => ?_⟩, hlim⟩
      · have := (hf 0 h0).1 0 _ rfl
        exact block_lt_of_cell this
      · simp at hi
        rw [gO_range len _ i hi]
        exact (hf i hi).1
      · rw [gO_range len _ j hj]
        exact (hf j hj).2.1
      · rw [gO_range len _ j hj]
        exact (hf j hj).2.2
    · obtain rfl : len = 0 := by omega
      exact ⟨⟨some a, 0, m⟩, [], hcs, ⟨Rd.nil _ _, rfl, (fun e => by cases e), fun j hj => absurd hj (by simp), fun j hj => absurd hj (by simp)⟩, by show 0 ≤ _; omega⟩
end Go.Proofs.Ytiakcfjbnlibfaa.nt
