import Derived.Test.YthmloakkefiicaaRows
import Derived.WalkKit
import Derived.ProofKit
import Derived.OpenShut
import Derived.ShutString
import Derived.ChangeOld
import Derived.Below
import Derived.Deep.SlicePairs
namespace Go.Proofs.Ythmloakkefiicaa.dk
open Go.ChangeShapes Go.WideShapes Go.ChangeAt Go.RowKit Go.Deep
theorem cells34 : Try.prog.cellsOf 34 = 2 := by kernel_rfl
theorem cells3 : Try.prog.cellsOf 3 = 1 := by kernel_rfl
theorem cells5 : Try.prog.cellsOf 5 = 1 := by kernel_rfl
/-- A list of puts that came in. -/
def IsPuts (w : World) (p : Option Addr) (len : Nat) (fs fb : Nat → Int) : Prop :=
  0 < len → ∃ P o, p = some ⟨P, o, none⟩ ∧ P < w.heap.size ∧ (∀ i, i < len → w.cell? ⟨P, o + i * 2, none⟩ = some (.int .i64 (fs i))) ∧ (∀ i, i < len → w.cell? ⟨P, o + i * 2 + 1, none⟩ = some (.int .u8 (fb i)))
theorem open_puts {H : Type} {enc : TypeId × Value → H} {W : World} {fuel : Nat} {p : Option Addr} {len cap : Nat} {x : DataW H × List MemPlace} (h : DataW.trod enc Try.prog W 0 (fun _ => true) true fuel 22 [.slice p len cap] = some x) : ∃ fs fb, IsPuts W p len fs fb := by
  rcases open_slice_pairs Try.underlying22 Try.underlying34 cells34 rfl rfl cells3 cells5 h with ⟨hcs, _⟩ | ⟨a, len', cap', m, n, V0, V1, D0, D1, P0, P1, hcs, _, hl, hm, hmeq, hx, hall⟩
  · simp only [List.cons.injEq, Value.slice.injEq, and_true] at hcs
    obtain ⟨rfl, rfl, rfl⟩ := hcs
    exact ⟨fun _ => 0, fun _ => 0, fun h => absurd h (by omega)⟩
  · simp only [if_true] at hmeq
    subst hmeq
    simp only [List.cons.injEq, Value.slice.injEq, and_true] at hcs
    obtain ⟨rfl, rfl, rfl⟩ := hcs
    refine ⟨fun i => match V0 i with | .int _ k => k | _ => 0, fun i => match V1 i with | .int _ k => k | _ => 0, fun h0 => ?_⟩
    obtain ⟨P, o, spot⟩ := a
    have hc := (hall 0 (by omega)).1
    have hspot : spot = none := by simpa [Addr.add] using World.cell?_spot hc
    subst hspot
    have key : ∀ i, i < len → W.cell? ⟨P, o + i * 2, none⟩ = some (.int .i64 (match V0 i with | .int _ k => k | _ => 0)) ∧ W.cell? ⟨P, o + i * 2 + 1, none⟩ = some (.int .u8 (match V1 i with | .int _ k => k | _ => 0)) := by
      intro i hi
      obtain ⟨c0, c1, t0, t1⟩ := hall i (by omega)
      obtain ⟨s, e0, _, hs⟩ := DataW.trod_int Try.underlying3 t0
      obtain ⟨k, e1, _, hw⟩ := DataW.trod_int Try.underlying5 t1
      simp only [List.cons.injEq, and_true] at e0 e1
      rw [Addr.add_lit] at c0 c1
      rw [e0] at c0
      rw [e1] at c1
      simp only [e0, e1]
      exact ⟨c0, by rw [Nat.add_assoc]; exact c1⟩
    exact ⟨P, o, rfl, block_lt_of_cell (key 0 h0).1, fun i hi => (key i hi).1, fun i hi => (key i hi).2⟩
theorem own : ownKnob Try.prog.godebug = none := by kernel_rfl
theorem laidOut : laidOutB Try.prog = true := by kernel_rfl
end Go.Proofs.Ythmloakkefiicaa.dk
