import Derived.Test.YtdggkofihppcmaaDoorFrame
import Derived.Test.YtdggkofihppcmaaDoorEx2
namespace Go.Proofs.YtdggkofihppcmaaDoor.ds
open Go.ChangeShapes Go.WideShapes Go.ChangeAt Go.RowKit Go.Deep
set_option linter.unusedVariables false
theorem cells22 : Tryd.prog.cellsOf 22 = 1 := by kernel_rfl
theorem cells48 : Tryd.prog.cellsOf 48 = 7 := by kernel_rfl
theorem weigh {H : Type} (d : DataW H) : 0 < Rows.uptoBulk d := by
  cases d
  case lit l => cases l <;> (unfold Rows.uptoBulk; omega)
  all_goals (unfold Rows.uptoBulk; omega)
theorem many {H : Type} : ∀ l : List (DataW H), l.length ≤ Rows.uptoBulkAll l
  | [] => Nat.zero_le _
  | d :: l => by have h1 := weigh d; have h2 := many l; rw [Rows.uptoBulkAll, List.length_cons]; omega
theorem all_cons {H : Type} (d : DataW H) (l : List (DataW H)) : Rows.uptoBulkAll (d :: l) = Rows.uptoBulk d + Rows.uptoBulkAll l := by rw [Rows.uptoBulkAll]
theorem all_nil {H : Type} : Rows.uptoBulkAll ([] : List (DataW H)) = 0 := by rw [Rows.uptoBulkAll]
theorem all_mem {H : Type} {d : DataW H} : ∀ {l : List (DataW H)}, d ∈ l → Rows.uptoBulk d ≤ Rows.uptoBulkAll l
  | e :: l, h => by
    rw [all_cons]
    rcases List.mem_cons.1 h with rfl | h
    · omega
    · have := all_mem h; omega
theorem slice_many {H : Type} (a b : List (DataW H)) : Rows.uptoBulkAll a ≤ Rows.uptoBulk (.slice a b) := by
  rw [Rows.uptoBulk]; omega
theorem agg_many {H : Type} (a : List (DataW H)) : Rows.uptoBulkAll a ≤ Rows.uptoBulk (.agg a) := by
  rw [Rows.uptoBulk]; omega
/-- the spans of a field -/
theorem open_field {H : Type} {enc : TypeId × Value → H} {W : World} {fuel : Nat} {v : Value} {x : DataW H × List MemPlace} (h : DataW.trod enc Tryd.prog W 0 (fun _ => true) true fuel 22 [v] = some x) : ∃ p len cap xs, v = .slice p len cap ∧ L W p len xs ∧ len ≤ Rows.uptoBulk x.1 := by
  have h' := h
  rcases open_slice Tryd.underlying22 h with ⟨hcs, _⟩ | ⟨a, len', cap', m, n, D, Pl, hcs, _, hl, hm, hmeq, hx, hall⟩
  · simp only [List.cons.injEq, and_true] at hcs
    subst hcs
    exact ⟨none, 0, 0, [], rfl, L.nil _ _, Nat.zero_le _⟩
  · simp only [List.cons.injEq, and_true] at hcs
    subst hcs
    obtain ⟨xs, hxs⟩ := open_spans h'
    refine ⟨some a, len', cap', xs, rfl, hxs, ?_⟩
    subst hx
    refine Nat.le_trans ?_ (slice_many _ _)
    refine Nat.le_trans ?_ (many _)
    simp
/-- a []Op that came in -/
theorem open_ops {H : Type} {enc : TypeId × Value → H} {W : World} {fuel : Nat} {p : Option Addr} {len cap : Nat} {x : DataW H × List MemPlace} (h : DataW.trod enc Tryd.prog W 0 (fun _ => true) true fuel 42 [.slice p len cap] = some x) (hb : Rows.uptoBulk x.1 ≤ 1048576) : ∃ f, Ops W p len f ∧ len ≤ 9223372036854775807 := by
  rcases open_slice Tryd.underlying42 h with ⟨hcs, _⟩ | ⟨a, len', cap', m, n, D, Pl, hcs, _, hl, hm, hmeq, hx, hall⟩
  · simp only [List.cons.injEq, Value.slice.injEq, and_true] at hcs
    obtain ⟨rfl, rfl, rfl⟩ := hcs
    exact ⟨fun _ => default, fun h => absurd h (by omega), by omega⟩
  · simp only [if_true] at hmeq
    subst hmeq
    simp only [List.cons.injEq, Value.slice.injEq, and_true] at hcs
    obtain ⟨rfl, rfl, rfl⟩ := hcs
    have hlim : len ≤ 9223372036854775807 := by unfold maxLen at hm; omega
    by_cases h0 : 0 < len
    · obtain ⟨P, o, spot⟩ := a
      have hspot : spot = none := by
        obtain ⟨cs', h1, h2⟩ := hall 0 (by omega)
        rw [cells48] at h1
        obtain ⟨_, hlen, hcell⟩ := World.cells?_some h1
        have hc := hcell 0 (by omega)
        rw [List.getElem?_eq_getElem (by omega)] at hc
        have := World.cell?_spot hc
        simpa [Addr.add] using this
      subst hspot
      have each : ∀ i, i < len → ∃ d : OpC, OpAt W P (o + i * 7) d ∧ OpOk W d := by
        intro i hi
        obtain ⟨cs', h1, h2⟩ := hall i (by omega)
        have hDi : Rows.uptoBulk (D i) ≤ 1048576 := by
          subst hx
          refine Nat.le_trans ?_ hb
          refine Nat.le_trans ?_ (slice_many _ _)
          exact all_mem (List.mem_map.2 ⟨i, List.mem_range.2 hi, rfl⟩)
        rw [cells48, Addr.add_lit] at h1
        obtain ⟨_, hlen, hcell⟩ := World.cells?_some h1
        obtain ⟨xs, k, hk, hxy, _, hxl, hf⟩ := DataW.trod_struct Tryd.underlying48 h2
        match xs, hxl, cs', hlen with
        | [y0, y1, y2, y3, y4, y5], _, [v0, v1, v2, v3, v4, v5, v6], _ =>
          have g0 := hf 0 _ rfl
          have g1 := hf 1 _ rfl
          have g2 := hf 2 _ rfl
          have g3 := hf 3 _ rfl
          have g4 := hf 4 _ rfl
          have g5 := hf 5 _ rfl
          simp [cells3, cells22, cells35] at g0 g1 g2 g3 g4 g5
          obtain ⟨k0, q0, _, _⟩ := DataW.trod_int Tryd.underlying3 g0
          obtain ⟨k1, q1, _, _⟩ := DataW.trod_int Tryd.underlying3 g1
          obtain ⟨k2, q2, _, _⟩ := DataW.trod_int Tryd.underlying3 g2
          obtain ⟨pa, na, ca, xa, rfl, la, ba⟩ := open_field g3
          obtain ⟨pb, nb, cb, xb, rfl, lb, bb⟩ := open_field g4
          obtain ⟨zs, kz, _, _, _, hzl, hz⟩ := DataW.trod_struct Tryd.underlying35 g5
          match zs, hzl with
          | [z0, z1], _ =>
            have e0 := hz 0 _ rfl
            have e1 := hz 1 _ rfl
            simp [cells3] at e0 e1
            obtain ⟨k5, q5, _, _⟩ := DataW.trod_int Tryd.underlying3 e0
            obtain ⟨k6, q6, _, _⟩ := DataW.trod_int Tryd.underlying3 e1
            simp only [List.cons.injEq, and_true] at q0 q1 q2 q5 q6
            subst q0 q1 q2 q5 q6
            have hD : D i = .agg [y0.1, y1.1, y2.1, y3.1, y4.1, y5.1] := by
              have := hxy
              simp at this
              exact this.1
            rw [hD] at hDi
            have hall2 := Nat.le_trans (agg_many _) hDi
            have ma : Rows.uptoBulk y3.1 ≤ 1048576 := Nat.le_trans (all_mem (by simp)) hall2
            have mb : Rows.uptoBulk y4.1 ≤ 1048576 := Nat.le_trans (all_mem (by simp)) hall2
            have f0 := hcell 0 (by omega)
            have f1 := hcell 1 (by omega)
            have f2 := hcell 2 (by omega)
            have f3 := hcell 3 (by omega)
            have f4 := hcell 4 (by omega)
            have f5 := hcell 5 (by omega)
            have f6 := hcell 6 (by omega)
            simp only [Addr.add_lit] at f0 f1 f2 f3 f4 f5 f6
            exact ⟨⟨k0, k1, k2, pa, na, ca, pb, nb, cb, k5, k6, xa, xb⟩, ⟨by simpa using f0, by simpa using f1, by simpa using f2, by simpa using f3, by simpa using f4, by simpa using f5, by simpa using f6⟩, la, lb, by show na ≤ 1048576; omega, by show nb ≤ 1048576; omega⟩
      obtain ⟨f, hf⟩ := @choose_lt OpC ⟨default⟩ _ _ each
      exact ⟨f, fun _ => ⟨P, o, rfl, block_lt_of_cell (hf 0 h0).1.c0, hf⟩, hlim⟩
    · exact ⟨fun _ => default, fun h => absurd h h0, hlim⟩
end Go.Proofs.YtdggkofihppcmaaDoor.ds
