import Derived.Test.YtmdjjigiipboaaaDoorGn0
namespace Go.Proofs.YtmdjjigiipboaaaDoor.ds
open Go.ChangeShapes Go.WideShapes Go.ChangeAt Go.RowKit
theorem eqfIn (d : Nat) (w : World) (f : Fn) (a c : Array Value) : (Op.equalIn (d + 1) 60 (.func f a c) .nilFunc).run Tryd.prog w = .ok false w := by
  simp [Op.equalIn, run_underlying Tryd.underlying60]
theorem eqf (w : World) (f : Fn) (a c : Array Value) : (binOp .eql 60 (.func f a c) .nilFunc).run Tryd.prog w = .ok (.bool false) w := by
  have e : (Op.equal 60 (.func f a c) .nilFunc).run Tryd.prog w = .ok false w := eqfIn 9999 w f a c
  simp only [binOp]
  simp [e]
end Go.Proofs.YtmdjjigiipboaaaDoor.ds
