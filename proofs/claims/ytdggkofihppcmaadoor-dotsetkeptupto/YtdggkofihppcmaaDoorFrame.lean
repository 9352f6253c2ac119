import Derived.Test.YtdggkofihppcmaaDoorBase
import Derived.Test.YtdggkofihppcmaaDoorCards
import Derived.Test.YtdggkofihppcmaaDoorTie
import Derived.JoinedCond
import Derived.ShutString
import Derived.ChangeOld
import Derived.Below
import Derived.Carry
import Derived.ChangeSlices
import Derived.Deep.Slices
import Derived.Deep.DeepHandedRow
import Derived.Lib.LaidTab
namespace Go.Proofs.YtdggkofihppcmaaDoor.ds
open Go.ChangeShapes Go.WideShapes Go.ChangeAt Go.RowKit Go.Deep
set_option linter.unusedVariables false
theorem own : ownKnob Tryd.prog.godebug = none := by kernel_rfl
theorem laidOut : laidOutB Tryd.prog = true := by kernel_rfl
theorem cells3 : Tryd.prog.cellsOf 3 = 1 := by kernel_rfl
theorem cells50 : Tryd.prog.cellsOf 50 = 1 := by kernel_rfl
theorem cells52 : Tryd.prog.cellsOf 52 = 3 := by kernel_rfl
theorem cells35 : Tryd.prog.cellsOf 35 = 2 := by kernel_rfl
theorem cells5 : Tryd.prog.cellsOf 5 = 1 := by kernel_rfl
theorem cells89 : Tryd.prog.cellsOf 89 = 64 := by kernel_rfl
theorem gTab : Tryd.prog.globalNamed "math/bits.deBruijn64tab" = some 0 := by kernel_rfl
theorem gTabType : (Tryd.prog.globals[0]?).map (·.type) = some 89 := by kernel_rfl
def tabInts : List Int := [0, 1, 56, 2, 57, 49, 28, 3, 61, 58, 42, 50, 38, 29, 17, 4, 62, 47, 59, 36, 45, 43, 51, 22, 53, 39, 33, 30, 24, 18, 12, 5, 63, 55, 48, 27, 60, 41, 37, 16, 46, 35, 44, 21, 52, 32, 23, 11, 54, 26, 40, 15, 34, 20, 31, 10, 25, 14, 19, 9, 13, 8, 7, 6]
theorem tabInts_at : ∀ j : Fin 64, tabInts.getD j.val 0 = (Lib.deBruijn64tab.getD j.val 0 : Nat) := by decide +kernel
theorem table {W : World} (h : laidMetH Tryd.prog [("math/bits.deBruijn64tab", Rows.laid_math_bits_deBruijn64tab)] W) : Tab W := by
  have h1 : Lib.TabIs Tryd.prog W "math/bits.deBruijn64tab" .u8 tabInts := Lib.tabIs_of_head (rest := []) gTab gTabType Tryd.underlying89 Tryd.underlying5 cells5 cells89 h
  refine ⟨fun j hj => ?_⟩
  have := h1.cell gTab j hj
  rw [this, tabInts_at ⟨j, hj⟩]
/-- a []api.Span that came in -/
theorem open_spans {H : Type} {enc : TypeId × Value → H} {W : World} {fuel : Nat} {p : Option Addr} {len cap : Nat} {x : DataW H × List MemPlace} (h : DataW.trod enc Tryd.prog W 0 (fun _ => true) true fuel 22 [.slice p len cap] = some x) : ∃ xs, L W p len xs := by
  rcases open_slice Tryd.underlying22 h with ⟨hcs, _⟩ | ⟨a, len', cap', m, n, D, Pl, hcs, _, hl, hm, hmeq, hx, hall⟩
  · simp only [List.cons.injEq, Value.slice.injEq, and_true] at hcs
    obtain ⟨rfl, rfl, rfl⟩ := hcs
    exact ⟨[], L.nil _ _⟩
  · simp only [if_true] at hmeq
    subst hmeq
    simp only [List.cons.injEq, Value.slice.injEq, and_true] at hcs
    obtain ⟨rfl, rfl, rfl⟩ := hcs
    have hlim : len ≤ 9223372036854775807 := by unfold maxLen at hm; omega
    by_cases h0 : 0 < len
    · obtain ⟨P, o, spot⟩ := a
      have hspot : spot = none := by
        obtain ⟨cs', h1, h2⟩ := hall 0 (by omega)
        rw [cells52] at h1
        obtain ⟨_, hlen, hcell⟩ := World.cells?_some h1
        have hc := hcell 0 (by omega)
        rw [List.getElem?_eq_getElem (by omega)] at hc
        have := World.cell?_spot hc
        simpa [Addr.add] using this
      subst hspot
      have each : ∀ i, i < len → ∃ d : S, (W.cell? ⟨P, o + i * 3, none⟩ = some (.int .i64 d.n) ∧ W.cell? ⟨P, o + i * 3 + 1, none⟩ = some (.int .i64 d.b) ∧ W.cell? ⟨P, o + i * 3 + 2, none⟩ = some (.int .u64 (d.t : Int))) ∧ d.t < 2 ^ 64 := by
        intro i hi
        obtain ⟨cs', h1, h2⟩ := hall i (by omega)
        rw [cells52, Addr.add_lit] at h1
        obtain ⟨_, hlen, hcell⟩ := World.cells?_some h1
        obtain ⟨xs, k, hk, hxy, _, hxl, hf⟩ := DataW.trod_struct Tryd.underlying52 h2
        match xs, hxl, cs', hlen with
        | [y0, y1, y2], _, [v0, v1, v2], _ =>
          have g0 := hf 0 _ rfl
          have g1 := hf 1 _ rfl
          have g2 := hf 2 _ rfl
          simp [cells3, cells50] at g0 g1 g2
          obtain ⟨k0, q0, _, _⟩ := DataW.trod_int Tryd.underlying3 g0
          obtain ⟨k1, q1, _, _⟩ := DataW.trod_int Tryd.underlying3 g1
          obtain ⟨k2, q2, _, wf2⟩ := DataW.trod_int Tryd.underlying50 g2
          simp only [List.cons.injEq, and_true] at q0 q1 q2
          subst q0 q1 q2
          have e0 := hcell 0 (by omega)
          have e1 := hcell 1 (by omega)
          have e2 := hcell 2 (by omega)
          simp only [Addr.add_lit] at e0 e1 e2
          have hr : 0 ≤ k2 ∧ k2 < 18446744073709551616 := by
            simp [Lit.wf, IntKind.bits, IntKind.signed, IntKind.min, IntKind.max] at wf2
            omega
          obtain ⟨K, rfl⟩ := Int.eq_ofNat_of_zero_le hr.1
          exact ⟨⟨k0, k1, K⟩, ⟨by simpa using e0, by simpa using e1, by simpa using e2⟩, by show K < 2 ^ 64; omega⟩
      obtain ⟨f, hf⟩ := @choose_lt S ⟨⟨0, 0, 0⟩⟩ _ _ each
      have hg : ∀ i, i < len → g ((List.range len).map f) i = f i := by
        intro i hi
        unfold g
        rw [List.getD_eq_getElem?_getD, List.getElem?_map, List.getElem?_range hi]; rfl
      refine ⟨(List.range len).map f, fun _ => ⟨P, o, rfl, block_lt_of_cell (hf 0 h0).1.1, fun i hi => ?_⟩, by simp, hlim, fun x hx => ?_⟩
      · simp at hi
        rw [hg i hi]; exact (hf i hi).1
      · simp at hx
        obtain ⟨i, hi, rfl⟩ := hx
        exact (hf i hi).2
    · obtain rfl : len = 0 := by omega
      exact ⟨[], L.nil _ _⟩
/-- a world for the witness -/
noncomputable def laidWorld (os : Os) : World :=
  { World.holding Tryd.prog os ⟨#[], #[], []⟩ with heap := (World.holding Tryd.prog os ⟨#[], #[], []⟩).heap.modify 0 fun
      | .cells _ t frozen => .cells (tabInts.map fun z => Value.int .u8 z).toArray t frozen
      | o => o }
end Go.Proofs.YtdggkofihppcmaaDoor.ds
