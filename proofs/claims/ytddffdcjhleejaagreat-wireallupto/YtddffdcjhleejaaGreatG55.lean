import Derived.Test.YtddffdcjhleejaaGreatG20
import Derived.Test.YtddffdcjhleejaaGreatG40
import Derived.Test.YtddffdcjhleejaaGreatG42
import Derived.Test.YtddffdcjhleejaaGreatG52
import Derived.Test.YtddffdcjhleejaaGreatG53
import Derived.Test.YtddffdcjhleejaaGreatG54
namespace Go.Proofs.YtddffdcjhleejaaGreat.ds
open Go.ChangeShapes Go.WideShapes Go.ChangeAt Go.RowKit Go.ChangeMaps Go.Deep
set_option linter.unusedVariables false
set_option linter.unusedSimpArgs false
theorem open_cap {H : Type} {enc : TypeId × Value → H} {W : World} {fuel : Nat} {p : Option Addr} {n k : Nat} {x : DataW H × List MemPlace} (h : DataW.trod enc Tryz.prog W 0 (fun _ => true) true fuel 30 [.slice p n k] = some x) : n ≤ k := by
  rcases open_ints Tryz.underlying30 Tryz.underlying5 c5 h with ⟨hcs, _⟩ | ⟨a, l, c, zs, hcs, _, hl, hm, hz, hx, hcell, hwz⟩
  · simp at hcs
    omega
  · simp at hcs
    omega
end Go.Proofs.YtddffdcjhleejaaGreat.ds

