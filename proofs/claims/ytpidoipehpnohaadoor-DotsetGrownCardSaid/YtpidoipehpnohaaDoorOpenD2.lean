import Derived.Test.YtpidoipehpnohaaDoorFrame
import Derived.Test.YtpidoipehpnohaaDoorLawsA
namespace Go.Proofs.YtpidoipehpnohaaDoor.ds
open Go.ChangeShapes Go.WideShapes Go.ChangeAt Go.RowKit Go.Deep
set_option linter.unusedVariables false
/-- a []api.Dot that came in -/
theorem open_dots2 {H : Type} {enc : TypeId × Value → H} {W : World} {fuel : Nat} {p : Option Addr} {len cap : Nat} {x : DataW H × List MemPlace} (h : DataW.trod enc Tryd.prog W 0 (fun _ => true) true fuel 30 [.slice p len cap] = some x) : ∃ f : Nat → Int × Int, (Dts W p len f ∧ len ≤ 9223372036854775807) ∧ ∀ i, i < len → (-9223372036854775808 ≤ (f i).1 ∧ (f i).1 ≤ 9223372036854775807) ∧ -9223372036854775808 ≤ (f i).2 ∧ (f i).2 ≤ 9223372036854775807 := by
  rcases open_slice Tryd.underlying30 h with ⟨hcs, _⟩ | ⟨a, len', cap', m, n, D, Pl, hcs, _, hl, hm, hmeq, hx, hall⟩
  · simp only [List.cons.injEq, Value.slice.injEq, and_true] at hcs
    obtain ⟨rfl, rfl, rfl⟩ := hcs
    exact ⟨fun _ => (0, 0), ⟨fun h => absurd h (by omega), by omega⟩, fun i hi => absurd hi (by omega)⟩
  · simp only [if_true] at hmeq
    subst hmeq
    simp only [List.cons.injEq, Value.slice.injEq, and_true] at hcs
    obtain ⟨rfl, rfl, rfl⟩ := hcs
    have hlim : len ≤ 9223372036854775807 := by unfold maxLen at hm; omega
    by_cases h0 : 0 < len
    · obtain ⟨P, o, spot⟩ := a
      have hspot : spot = none := by
        obtain ⟨cs', h1, h2⟩ := hall 0 (by omega)
        rw [cells35] at h1
        obtain ⟨_, hlen, hcell⟩ := World.cells?_some h1
        have hc := hcell 0 (by omega)
        rw [List.getElem?_eq_getElem (by omega)] at hc
        have := World.cell?_spot hc
        simpa [Addr.add] using this
      subst hspot
      have each : ∀ i, i < len → ∃ d : Int × Int, W.cell? ⟨P, o + i * 2, none⟩ = some (.int .i64 d.1) ∧ W.cell? ⟨P, o + i * 2 + 1, none⟩ = some (.int .i64 d.2) ∧ (-9223372036854775808 ≤ d.1 ∧ d.1 ≤ 9223372036854775807) ∧ -9223372036854775808 ≤ d.2 ∧ d.2 ≤ 9223372036854775807 := by
        intro i hi
        obtain ⟨cs', h1, h2⟩ := hall i (by omega)
        rw [cells35, Addr.add_lit] at h1
        obtain ⟨_, hlen, hcell⟩ := World.cells?_some h1
        obtain ⟨xs, k, hk, hxy, _, hxl, hf⟩ := DataW.trod_struct Tryd.underlying35 h2
        match xs, hxl, cs', hlen with
        | [y0, y1], _, [v0, v1], _ =>
          have g0 := hf 0 _ rfl
          have g1 := hf 1 _ rfl
          simp [cells3] at g0 g1
          obtain ⟨k0, q0, _, wf0⟩ := DataW.trod_int Tryd.underlying3 g0
          obtain ⟨k1, q1, _, wf1⟩ := DataW.trod_int Tryd.underlying3 g1
          simp only [List.cons.injEq, and_true] at q0 q1
          subst q0 q1
          have e0 := hcell 0 (by omega)
          have e1 := hcell 1 (by omega)
          simp only [Addr.add_lit] at e0 e1
          simp [Lit.wf, IntKind.bits, IntKind.signed, IntKind.min, IntKind.max] at wf0 wf1
          exact ⟨(k0, k1), by simpa using e0, by simpa using e1, ⟨by show -9223372036854775808 ≤ k0; omega, by show k0 ≤ 9223372036854775807; omega⟩, by show -9223372036854775808 ≤ k1; omega, by show k1 ≤ 9223372036854775807; omega⟩
      obtain ⟨f, hf⟩ := @choose_lt (Int × Int) ⟨(0, 0)⟩ _ _ each
      exact ⟨f, ⟨fun _ => ⟨P, o, rfl, block_lt_of_cell (hf 0 h0).1, fun i hi => ⟨(hf i hi).1, (hf i hi).2.1⟩⟩, hlim⟩, fun i hi => (hf i hi).2.2⟩
    · exact ⟨fun _ => (0, 0), ⟨fun h => absurd h h0, hlim⟩, fun i hi => absurd hi (by omega)⟩
end Go.Proofs.YtpidoipehpnohaaDoor.ds
