import Derived.Test.YtopmhacnopfifaaH6
import Derived.Test.YtopmhacnopfifaaOO0
import Derived.Deep.Slices
namespace Go.Proofs.Ytopmhacnopfifaa.hp
open Go.ChangeShapes Go.WideShapes Go.ChangeAt Go.RowKit Go.Deep
set_option linter.unusedVariables false
set_option maxRecDepth 100000 in
theorem cells28 : Try.prog.cellsOf 28 = 4 := by kernel_rfl
structure OpcAt (w : World) (P o : Nat) (d : OpC) : Prop where
  c0 : w.cell? ⟨P, o, none⟩ = some (.int .i64 d.who)
  c1 : w.cell? ⟨P, o + 1, none⟩ = some (.int .i64 d.kind)
  c2 : w.cell? ⟨P, o + 2, none⟩ = some (.int .i64 d.a)
  c3 : w.cell? ⟨P, o + 3, none⟩ = some (.int .i64 d.b)
set_option maxRecDepth 100000 in
theorem open_script {H : Type} {enc : TypeId × Value → H} {W : World} {fuel : Nat} {p : Option Addr} {len cap : Nat} {x : DataW H × List MemPlace} (h : DataW.trod enc Try.prog W 0 (fun _ => true) true fuel 22 [.slice p len cap] = some x) : ∃ f, IsScript W p len f ∧ len ≤ Rows.uptoBulk x.1 := by
  rcases open_slice Try.underlying22 h with ⟨hcs, _⟩ | ⟨a, len', cap', m, n, D, Pl, hcs, _, hl, hm, hmeq, hx, hall⟩
  · simp only [List.cons.injEq, Value.slice.injEq, and_true] at hcs
    obtain ⟨rfl, rfl, rfl⟩ := hcs
    exact ⟨fun _ => ⟨0, 0, 0, 0⟩, fun h => absurd h (by omega), Nat.zero_le _⟩
  · simp only [if_true] at hmeq
    subst hmeq
    simp only [List.cons.injEq, Value.slice.injEq, and_true] at hcs
    obtain ⟨rfl, rfl, rfl⟩ := hcs
    have hlen : len ≤ Rows.uptoBulk x.1 := by
      subst hx
      refine Nat.le_trans ?_ (slice_many _ _)
      simp
    by_cases h0 : 0 < len
    · obtain ⟨P, o, spot⟩ := a
      have hspot : spot = none := by
        obtain ⟨cs', h1, h2⟩ := hall 0 (by omega)
        rw [cells28] at h1
        obtain ⟨_, hlen, hcell⟩ := World.cells?_some h1
        have hc := hcell 0 (by omega)
        rw [List.getElem?_eq_getElem (by omega)] at hc
        have := World.cell?_spot hc
        simpa [Addr.add] using this
      subst hspot
      have each : ∀ i, i < len → ∃ d : OpC, OpcAt W P (o + i * 4) d := by
        intro i hi
        obtain ⟨cs', h1, h2⟩ := hall i (by omega)
        rw [cells28, Addr.add_lit] at h1
        obtain ⟨_, hlen, hcell⟩ := World.cells?_some h1
        obtain ⟨xs, k, hk, hxy, _, hxl, hf⟩ := DataW.trod_struct Try.underlying28 h2
        match xs, hxl, cs', hlen with
        | [y0, y1, y2, y3], _, [v0, v1, v2, v3], _ =>
          have g0 := hf 0 _ rfl
          have g1 := hf 1 _ rfl
          have g2 := hf 2 _ rfl
          have g3 := hf 3 _ rfl
          simp [cells3] at g0 g1 g2 g3
          obtain ⟨k0, q0, _, _⟩ := DataW.trod_int Try.underlying3 g0
          obtain ⟨k1, q1, _, _⟩ := DataW.trod_int Try.underlying3 g1
          obtain ⟨k2, q2, _, _⟩ := DataW.trod_int Try.underlying3 g2
          obtain ⟨k3, q3, _, _⟩ := DataW.trod_int Try.underlying3 g3
          simp only [List.cons.injEq, and_true] at q0 q1 q2 q3
          subst q0 q1 q2 q3
          have e0 := hcell 0 (by omega)
          have e1 := hcell 1 (by omega)
          have e2 := hcell 2 (by omega)
          have e3 := hcell 3 (by omega)
          simp only [Addr.add_lit] at e0 e1 e2 e3
          exact ⟨⟨k0, k1, k2, k3⟩, ⟨by simpa using e0, by simpa using e1, by simpa using e2, by simpa using e3⟩⟩
      obtain ⟨f, hf⟩ := @choose_lt OpC ⟨⟨0, 0, 0, 0⟩⟩ _ _ each
      exact ⟨f, fun _ => ⟨P, o, rfl, block_lt_of_cell (hf 0 h0).c0, fun i hi => ⟨(hf i hi).c0, (hf i hi).c1, (hf i hi).c2, (hf i hi).c3⟩⟩, hlen⟩
    · exact ⟨fun _ => ⟨0, 0, 0, 0⟩, fun h => absurd h h0, hlen⟩
end Go.Proofs.Ytopmhacnopfifaa.hp
