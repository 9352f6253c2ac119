import Derived.Test.YtddffdcjhleejaaV32
namespace Go.Proofs.Ytddffdcjhleejaa.ds
open Go.ChangeShapes Go.WideShapes Go.ChangeAt Go.RowKit Go.ChangeMaps Go.Deep
set_option linter.unusedVariables false
set_option linter.unusedSimpArgs false
theorem open_cap {H : Type} {enc : TypeId × Value → H} {W : World} {fuel : Nat} {p : Option Addr} {n k : Nat} {x : DataW H × List MemPlace} (h : DataW.trod enc Try.prog W 0 (fun _ => true) true fuel 22 [.slice p n k] = some x) : n ≤ k := by
  rcases open_ints Try.underlying22 Try.underlying5 c5 h with ⟨hcs, _⟩ | ⟨a, l, c, zs, hcs, _, hl, hm, hz, hx, hcell, hwz⟩
  · simp at hcs
    omega
  · simp at hcs
    omega
end Go.Proofs.Ytddffdcjhleejaa.ds
