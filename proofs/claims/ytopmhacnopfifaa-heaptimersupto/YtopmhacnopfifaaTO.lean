import Derived.Test.YtopmhacnopfifaaTT2
import Derived.JoinedCond
import Derived.ShutString
import Derived.ChangeOld
import Derived.Below
import Derived.Carry
import Derived.ChangeSlices
namespace Go.Proofs.Ytopmhacnopfifaa.tm
open Go.ChangeShapes Go.WideShapes Go.ChangeAt Go.RowKit
theorem own : ownKnob Try.prog.godebug = none := by kernel_rfl
theorem laidOut : laidOutB Try.prog = true := by kernel_rfl
theorem cells3 : Try.prog.cellsOf 3 = 1 := by kernel_rfl
/-- each value weighs something -/
theorem weigh {H : Type} (d : DataW H) : 0 < Rows.uptoBulk d := by
  cases d
  case lit l => cases l <;> (unfold Rows.uptoBulk; omega)
  all_goals (unfold Rows.uptoBulk; omega)
theorem many {H : Type} : ∀ l : List (DataW H), l.length ≤ Rows.uptoBulkAll l
  | [] => Nat.zero_le _
  | d :: l => by have h1 := weigh d; have h2 := many l; rw [Rows.uptoBulkAll, List.length_cons]; omega
theorem all_cons {H : Type} (d : DataW H) (l : List (DataW H)) : Rows.uptoBulkAll (d :: l) = Rows.uptoBulk d + Rows.uptoBulkAll l := by rw [Rows.uptoBulkAll]
theorem all_nil {H : Type} : Rows.uptoBulkAll ([] : List (DataW H)) = 0 := by rw [Rows.uptoBulkAll]
theorem slice_many {H : Type} (a b : List (DataW H)) : a.length ≤ Rows.uptoBulk (.slice a b) := by
  have := many a
  rw [Rows.uptoBulk]; omega
/-- a []int that came in -/
theorem open_row {H : Type} {enc : TypeId × Value → H} {W : World} {fuel : Nat} {p : Option Addr} {len cap : Nat} {x : DataW H × List MemPlace} (h : DataW.trod enc Try.prog W 0 (fun _ => true) true fuel 39 [.slice p len cap] = some x) : ∃ fs, IsInts W p len fs ∧ len ≤ Rows.uptoBulk x.1 := by
  rcases open_ints Try.underlying39 Try.underlying3 cells3 h with ⟨hcs, _⟩ | ⟨a, len', cap', zs, hcs, _, hl, hm, hz, hx, hall, _⟩
  · simp only [List.cons.injEq, Value.slice.injEq, and_true] at hcs
    obtain ⟨rfl, rfl, rfl⟩ := hcs
    exact ⟨fun _ => 0, fun h => absurd h (by omega), Nat.zero_le _⟩
  · simp only [if_true] at hz
    simp only [List.cons.injEq, Value.slice.injEq, and_true] at hcs
    obtain ⟨rfl, rfl, rfl⟩ := hcs
    refine ⟨fun i => zs.getD i 0, fun h0 => ?_, ?_⟩
    · obtain ⟨P, o, spot⟩ := a
      have hc := hall 0 (by omega)
      have hspot : spot = none := by simpa [Addr.add] using World.cell?_spot hc
      subst hspot
      refine ⟨P, o, rfl, block_lt_of_cell hc, fun i hi => ?_⟩
      have := hall i (by omega)
      rwa [Addr.add_lit] at this
    · subst hx
      refine Nat.le_trans ?_ (slice_many _ _)
      simp [lits]
      omega
end Go.Proofs.Ytopmhacnopfifaa.tm
