import Derived.Test.YtagjmpdimphfaaaMem
import Derived.Test.YtagjmpdimphfaaaRows
import Derived.RowKit
import Derived.ChangeShapes
import Derived.SizedLaws
import Derived.ChangeMaps5
namespace Go.Proofs.Ytagjmpdimphfaaa.rg
open Go.ChangeShapes Go.WideShapes Go.ChangeAt Go.RowKit
set_option linter.unusedVariables false
theorem own : ownKnob Try.prog.godebug = none := by kernel_rfl
theorem laidOut : laidOutB Try.prog = true := by kernel_rfl
end Go.Proofs.Ytagjmpdimphfaaa.rg
