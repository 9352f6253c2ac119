import Derived.Test.YtopmhacnopfifaaK2
import Derived.Test.YtopmhacnopfifaaKO0
import Derived.Deep.Slices
namespace Go.Proofs.Ytopmhacnopfifaa.tm
open Go.ChangeShapes Go.WideShapes Go.ChangeAt Go.RowKit Go.Deep
set_option linter.unusedVariables false
set_option maxRecDepth 100000 in
theorem cells58 : Try.prog.cellsOf 58 = 5 := by kernel_rfl
structure AskAt (w : World) (P o : Nat) (d : AskC) : Prop where
  c0 : w.cell? ⟨P, o, none⟩ = some (.int .i64 d.who)
  c1 : w.cell? ⟨P, o + 1, none⟩ = some (.int .i64 d.kind)
  c2 : w.cell? ⟨P, o + 2, none⟩ = some (.int .i64 d.a)
  c3 : w.cell? ⟨P, o + 3, none⟩ = some (.int .i64 d.b)
  c4 : w.cell? ⟨P, o + 4, none⟩ = some (.int .i64 d.c)
set_option maxRecDepth 100000 in
theorem open_ask {H : Type} {enc : TypeId × Value → H} {W : World} {fuel : Nat} {p : Option Addr} {len cap : Nat} {x : DataW H × List MemPlace} (h : DataW.trod enc Try.prog W 0 (fun _ => true) true fuel 52 [.slice p len cap] = some x) : ∃ f, IsAsk W p len f ∧ len ≤ Rows.uptoBulk x.1 := by
  rcases open_slice Try.underlying52 h with ⟨hcs, _⟩ | ⟨a, len', cap', m, n, D, Pl, hcs, _, hl, hm, hmeq, hx, hall⟩
  · simp only [List.cons.injEq, Value.slice.injEq, and_true] at hcs
    obtain ⟨rfl, rfl, rfl⟩ := hcs
    exact ⟨fun _ => ⟨0, 0, 0, 0, 0⟩, fun h => absurd h (by omega), Nat.zero_le _⟩
  · simp only [if_true] at hmeq
    subst hmeq
    simp only [List.cons.injEq, Value.slice.injEq, and_true] at hcs
    obtain ⟨rfl, rfl, rfl⟩ := hcs
    have hlen : len ≤ Rows.uptoBulk x.1 := by
      subst hx
      refine Nat.le_trans ?_ (slice_many _ _)
      simp
    by_cases h0 : 0 < len
    · obtain ⟨P, o, spot⟩ := a
      have hspot : spot = none := by
        obtain ⟨cs', h1, h2⟩ := hall 0 (by omega)
        rw [cells58] at h1
        obtain ⟨_, hlen, hcell⟩ := World.cells?_some h1
        have hc := hcell 0 (by omega)
        rw [List.getElem?_eq_getElem (by omega)] at hc
        have := World.cell?_spot hc
        simpa [Addr.add] using this
      subst hspot
      have each : ∀ i, i < len → ∃ d : AskC, AskAt W P (o + i * 5) d := by
        intro i hi
        obtain ⟨cs', h1, h2⟩ := hall i (by omega)
        rw [cells58, Addr.add_lit] at h1
        obtain ⟨_, hlen, hcell⟩ := World.cells?_some h1
        obtain ⟨xs, k, hk, hxy, _, hxl, hf⟩ := DataW.trod_struct Try.underlying58 h2
        match xs, hxl, cs', hlen with
        | [y0, y1, y2, y3, y4], _, [v0, v1, v2, v3, v4], _ =>
          have g0 := hf 0 _ rfl
          have g1 := hf 1 _ rfl
          have g2 := hf 2 _ rfl
          have g3 := hf 3 _ rfl
          have g4 := hf 4 _ rfl
          simp [cells3] at g0 g1 g2 g3 g4
          obtain ⟨k0, q0, _, _⟩ := DataW.trod_int Try.underlying3 g0
          obtain ⟨k1, q1, _, _⟩ := DataW.trod_int Try.underlying3 g1
          obtain ⟨k2, q2, _, _⟩ := DataW.trod_int Try.underlying3 g2
          obtain ⟨k3, q3, _, _⟩ := DataW.trod_int Try.underlying3 g3
          obtain ⟨k4, q4, _, _⟩ := DataW.trod_int Try.underlying3 g4
          simp only [List.cons.injEq, and_true] at q0 q1 q2 q3 q4
          subst q0 q1 q2 q3 q4
          have e0 := hcell 0 (by omega)
          have e1 := hcell 1 (by omega)
          have e2 := hcell 2 (by omega)
          have e3 := hcell 3 (by omega)
          have e4 := hcell 4 (by omega)
          simp only [Addr.add_lit] at e0 e1 e2 e3 e4
          exact ⟨⟨k0, k1, k2, k3, k4⟩, ⟨by simpa using e0, by simpa using e1, by simpa using e2, by simpa using e3, by simpa using e4⟩⟩
      obtain ⟨f, hf⟩ := @choose_lt AskC ⟨⟨0, 0, 0, 0, 0⟩⟩ _ _ each
      exact ⟨f, fun _ => ⟨P, o, rfl, block_lt_of_cell (hf 0 h0).c0, fun i hi => ⟨(hf i hi).c0, (hf i hi).c1, (hf i hi).c2, (hf i hi).c3, (hf i hi).c4⟩⟩, hlen⟩
    · exact ⟨fun _ => ⟨0, 0, 0, 0, 0⟩, fun h => absurd h h0, hlen⟩
end Go.Proofs.Ytopmhacnopfifaa.tm
