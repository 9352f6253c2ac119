/-
  NARROWER THAN 'FOR EVERY INPUT', by the rows' own cells (each row's printed sentence says how): SibsPairs: laid · SibsGathers: laid · SibsClosed: laid · SibsOrder: laid · SibsWorld: laid · SibsFits: laid · SibsTokens: laid · SibsOwn: laid.
  DERIVED. THE GIVEN ROWS OF THIS SEAT. 8 by the template 'for every input the law returns true; each argument reads behind the call as it read before'; 0 by the template 'total and deterministic' (their statements: YtokaeiahhmaokaaDoorTotals.lean).
  GIVEN WITH THE SEED: the statements are not yours to turn. If you find one false, say at which input.
  Laid BY PROGRAM, IN A SANDBOX (cutbox-rows.mjs): the forced cells as the released guide's own fill.sh prints them over the translation 1b510c303c1608e2… (all of the seat's roots in one cut). By AI agents, Wed Nov 11 2026. No macro, syntax, notation, axiom, sorry.
-/
import Derived.Test.YtokaeiahhmaokaaDoorChecked
import GoSem.Claim
import GoSem.ClaimJoined
import GoSem.ClaimMapViews
import Derived.JoinedTies
import Derived.KernelRfl
namespace Go.Proofs.YtokaeiahhmaokaaDoor
/- THE CELL 'sum', in the pinned program and in every row, IS THE sha256 OF THE DUMP (.gsa) THAT YtokaeiahhmaokaaDoorProg.lean LOADS. Nothing in Lean hashes anything: it is a label: what it is worth is what the hold of that sum in a sandbox is worth. -/
noncomputable def Tryd.pinned : Pinned := { name := "ytokaeiahhmaokaadoor", sum := "1b510c303c1608e22059e1fe312eec5b91275cdaa2da3df55d34e0407545b8d5", checked := Tryd.checked }
namespace Rows
def none {H : Type} : Left H := { results := [], args := [] }

/- WHAT THE LISTED PACKAGE-LEVEL VARIABLES READ AS WHEN THE CALL BEGINS. Each datum BY PROGRAM (the guide's laid-datum.mjs) off the statement by which the dump's own 'gosem.cut.vars' lays the variable. In a bare row this is a premise. The card (YtokaeiahhmaokaaDoorCards.lean) ties it to the program's text. -/
def laid_math_bits_deBruijn64tab {H : Type} : DataW H := .agg [.lit (.int .u8 0), .lit (.int .u8 1), .lit (.int .u8 56), .lit (.int .u8 2), .lit (.int .u8 57), .lit (.int .u8 49), .lit (.int .u8 28), .lit (.int .u8 3), .lit (.int .u8 61), .lit (.int .u8 58), .lit (.int .u8 42), .lit (.int .u8 50), .lit (.int .u8 38), .lit (.int .u8 29), .lit (.int .u8 17), .lit (.int .u8 4), .lit (.int .u8 62), .lit (.int .u8 47), .lit (.int .u8 59), .lit (.int .u8 36), .lit (.int .u8 45), .lit (.int .u8 43), .lit (.int .u8 51), .lit (.int .u8 22), .lit (.int .u8 53), .lit (.int .u8 39), .lit (.int .u8 33), .lit (.int .u8 30), .lit (.int .u8 24), .lit (.int .u8 18), .lit (.int .u8 12), .lit (.int .u8 5), .lit (.int .u8 63), .lit (.int .u8 55), .lit (.int .u8 48), .lit (.int .u8 27), .lit (.int .u8 60), .lit (.int .u8 41), .lit (.int .u8 37), .lit (.int .u8 16), .lit (.int .u8 46), .lit (.int .u8 35), .lit (.int .u8 44), .lit (.int .u8 21), .lit (.int .u8 52), .lit (.int .u8 32), .lit (.int .u8 23), .lit (.int .u8 11), .lit (.int .u8 54), .lit (.int .u8 26), .lit (.int .u8 40), .lit (.int .u8 15), .lit (.int .u8 34), .lit (.int .u8 20), .lit (.int .u8 31), .lit (.int .u8 10), .lit (.int .u8 25), .lit (.int .u8 14), .lit (.int .u8 19), .lit (.int .u8 9), .lit (.int .u8 13), .lit (.int .u8 8), .lit (.int .u8 7), .lit (.int .u8 6)]

/-- 'rookerylaw5.SibsPairs': WHATEVER THE INPUT: true; the input reads as it did. -/
def sibsPairsSpec : ChangeSpec := { name := "sibsPairs", fn := fun _ => fun
  | [d] => { results := [.lit (.bool true)], args := [d] }
  | _ => none }
def sibsPairsRow : OpenClaim := { program := "ytokaeiahhmaokaadoor", sum := "1b510c303c1608e22059e1fe312eec5b91275cdaa2da3df55d34e0407545b8d5", func := "rookery/rookerylaw5.SibsPairs", spec := "sibsPairs", inPlace := ["slices.overlaps[rookery/api.Write]"], unfollowed := true, recurses := true, named := ["math/bits.deBruijn64tab"], apart := false, laid := [("math/bits.deBruijn64tab", laid_math_bits_deBruijn64tab)] }
def SibsPairsSaid : Prop := sibsPairsRow.holds Tryd.pinned (OpenSpec.ofChange sibsPairsSpec)

/-- ITS FALSE NEIGHBOUR: 'it returns false'. Refute it at one input. -/
def sibsPairsWrong : ChangeSpec := { name := "sibsPairs", fn := fun _ => fun
  | [d] => { results := [.lit (.bool false)], args := [d] }
  | _ => none }
def SibsPairsWrongFalsely : Prop := sibsPairsRow.holds Tryd.pinned (OpenSpec.ofChange sibsPairsWrong)

/-- 'rookerylaw5.SibsGathers': WHATEVER THE INPUT: true; the input reads as it did. -/
def sibsGathersSpec : ChangeSpec := { name := "sibsGathers", fn := fun _ => fun
  | [d] => { results := [.lit (.bool true)], args := [d] }
  | _ => none }
def sibsGathersRow : OpenClaim := { program := "ytokaeiahhmaokaadoor", sum := "1b510c303c1608e22059e1fe312eec5b91275cdaa2da3df55d34e0407545b8d5", func := "rookery/rookerylaw5.SibsGathers", spec := "sibsGathers", inPlace := ["slices.overlaps[rookery/api.Write]"], unfollowed := true, recurses := true, named := ["math/bits.deBruijn64tab"], apart := false, laid := [("math/bits.deBruijn64tab", laid_math_bits_deBruijn64tab)] }
def SibsGathersSaid : Prop := sibsGathersRow.holds Tryd.pinned (OpenSpec.ofChange sibsGathersSpec)

/-- ITS FALSE NEIGHBOUR: 'it returns false'. Refute it at one input. -/
def sibsGathersWrong : ChangeSpec := { name := "sibsGathers", fn := fun _ => fun
  | [d] => { results := [.lit (.bool false)], args := [d] }
  | _ => none }
def SibsGathersWrongFalsely : Prop := sibsGathersRow.holds Tryd.pinned (OpenSpec.ofChange sibsGathersWrong)

/-- 'rookerylaw5.SibsClosed': WHATEVER THE INPUT: true; the input reads as it did. -/
def sibsClosedSpec : ChangeSpec := { name := "sibsClosed", fn := fun _ => fun
  | [d] => { results := [.lit (.bool true)], args := [d] }
  | _ => none }
def sibsClosedRow : OpenClaim := { program := "ytokaeiahhmaokaadoor", sum := "1b510c303c1608e22059e1fe312eec5b91275cdaa2da3df55d34e0407545b8d5", func := "rookery/rookerylaw5.SibsClosed", spec := "sibsClosed", inPlace := ["slices.overlaps[rookery/api.Write]"], unfollowed := true, recurses := true, named := ["math/bits.deBruijn64tab"], apart := false, laid := [("math/bits.deBruijn64tab", laid_math_bits_deBruijn64tab)] }
def SibsClosedSaid : Prop := sibsClosedRow.holds Tryd.pinned (OpenSpec.ofChange sibsClosedSpec)

/-- ITS FALSE NEIGHBOUR: 'it returns false'. Refute it at one input. -/
def sibsClosedWrong : ChangeSpec := { name := "sibsClosed", fn := fun _ => fun
  | [d] => { results := [.lit (.bool false)], args := [d] }
  | _ => none }
def SibsClosedWrongFalsely : Prop := sibsClosedRow.holds Tryd.pinned (OpenSpec.ofChange sibsClosedWrong)

/-- 'rookerylaw5.SibsOrder': WHATEVER THE INPUT: true; the input reads as it did. -/
def sibsOrderSpec : ChangeSpec := { name := "sibsOrder", fn := fun _ => fun
  | [d1, d2] => { results := [.lit (.bool true)], args := [d1, d2] }
  | _ => none }
def sibsOrderRow : OpenClaim := { program := "ytokaeiahhmaokaadoor", sum := "1b510c303c1608e22059e1fe312eec5b91275cdaa2da3df55d34e0407545b8d5", func := "rookery/rookerylaw5.SibsOrder", spec := "sibsOrder", inPlace := ["slices.overlaps[rookery/api.Write]"], unfollowed := true, recurses := true, named := ["math/bits.deBruijn64tab"], apart := false, laid := [("math/bits.deBruijn64tab", laid_math_bits_deBruijn64tab)] }
def SibsOrderSaid : Prop := sibsOrderRow.holds Tryd.pinned (OpenSpec.ofChange sibsOrderSpec)

/-- ITS FALSE NEIGHBOUR: 'it returns false'. Refute it at one input. -/
def sibsOrderWrong : ChangeSpec := { name := "sibsOrder", fn := fun _ => fun
  | [d1, d2] => { results := [.lit (.bool false)], args := [d1, d2] }
  | _ => none }
def SibsOrderWrongFalsely : Prop := sibsOrderRow.holds Tryd.pinned (OpenSpec.ofChange sibsOrderWrong)

/-- 'rookerylaw5.SibsWorld': WHATEVER THE INPUT: true; the input reads as it did. -/
def sibsWorldSpec : ChangeSpec := { name := "sibsWorld", fn := fun _ => fun
  | [d] => { results := [.lit (.bool true)], args := [d] }
  | _ => none }
def sibsWorldRow : OpenClaim := { program := "ytokaeiahhmaokaadoor", sum := "1b510c303c1608e22059e1fe312eec5b91275cdaa2da3df55d34e0407545b8d5", func := "rookery/rookerylaw5.SibsWorld", spec := "sibsWorld", inPlace := ["slices.overlaps[rookery/api.Write]"], unfollowed := true, recurses := true, named := ["math/bits.deBruijn64tab"], apart := false, laid := [("math/bits.deBruijn64tab", laid_math_bits_deBruijn64tab)] }
def SibsWorldSaid : Prop := sibsWorldRow.holds Tryd.pinned (OpenSpec.ofChange sibsWorldSpec)

/-- ITS FALSE NEIGHBOUR: 'it returns false'. Refute it at one input. -/
def sibsWorldWrong : ChangeSpec := { name := "sibsWorld", fn := fun _ => fun
  | [d] => { results := [.lit (.bool false)], args := [d] }
  | _ => none }
def SibsWorldWrongFalsely : Prop := sibsWorldRow.holds Tryd.pinned (OpenSpec.ofChange sibsWorldWrong)

/-- 'rookerylaw5.SibsFits': WHATEVER THE INPUT: true; the input reads as it did. -/
def sibsFitsSpec : ChangeSpec := { name := "sibsFits", fn := fun _ => fun
  | [d] => { results := [.lit (.bool true)], args := [d] }
  | _ => none }
def sibsFitsRow : OpenClaim := { program := "ytokaeiahhmaokaadoor", sum := "1b510c303c1608e22059e1fe312eec5b91275cdaa2da3df55d34e0407545b8d5", func := "rookery/rookerylaw5.SibsFits", spec := "sibsFits", inPlace := ["slices.overlaps[rookery/api.Write]"], unfollowed := true, recurses := true, named := ["math/bits.deBruijn64tab"], apart := false, laid := [("math/bits.deBruijn64tab", laid_math_bits_deBruijn64tab)] }
def SibsFitsSaid : Prop := sibsFitsRow.holds Tryd.pinned (OpenSpec.ofChange sibsFitsSpec)

/-- ITS FALSE NEIGHBOUR: 'it returns false'. Refute it at one input. -/
def sibsFitsWrong : ChangeSpec := { name := "sibsFits", fn := fun _ => fun
  | [d] => { results := [.lit (.bool false)], args := [d] }
  | _ => none }
def SibsFitsWrongFalsely : Prop := sibsFitsRow.holds Tryd.pinned (OpenSpec.ofChange sibsFitsWrong)

/-- 'rookerylaw5.SibsTokens': WHATEVER THE INPUT: true; the input reads as it did. -/
def sibsTokensSpec : ChangeSpec := { name := "sibsTokens", fn := fun _ => fun
  | [d] => { results := [.lit (.bool true)], args := [d] }
  | _ => none }
def sibsTokensRow : OpenClaim := { program := "ytokaeiahhmaokaadoor", sum := "1b510c303c1608e22059e1fe312eec5b91275cdaa2da3df55d34e0407545b8d5", func := "rookery/rookerylaw5.SibsTokens", spec := "sibsTokens", inPlace := ["slices.overlaps[rookery/api.Write]"], unfollowed := true, recurses := true, named := ["math/bits.deBruijn64tab"], apart := false, laid := [("math/bits.deBruijn64tab", laid_math_bits_deBruijn64tab)] }
def SibsTokensSaid : Prop := sibsTokensRow.holds Tryd.pinned (OpenSpec.ofChange sibsTokensSpec)

/-- ITS FALSE NEIGHBOUR: 'it returns false'. Refute it at one input. -/
def sibsTokensWrong : ChangeSpec := { name := "sibsTokens", fn := fun _ => fun
  | [d] => { results := [.lit (.bool false)], args := [d] }
  | _ => none }
def SibsTokensWrongFalsely : Prop := sibsTokensRow.holds Tryd.pinned (OpenSpec.ofChange sibsTokensWrong)

/-- 'rookerylaw5.SibsOwn': WHATEVER THE INPUT: true; the input reads as it did. -/
def sibsOwnSpec : ChangeSpec := { name := "sibsOwn", fn := fun _ => fun
  | [d] => { results := [.lit (.bool true)], args := [d] }
  | _ => none }
def sibsOwnRow : OpenClaim := { program := "ytokaeiahhmaokaadoor", sum := "1b510c303c1608e22059e1fe312eec5b91275cdaa2da3df55d34e0407545b8d5", func := "rookery/rookerylaw5.SibsOwn", spec := "sibsOwn", inPlace := ["slices.overlaps[rookery/api.Write]"], unfollowed := true, recurses := true, named := ["math/bits.deBruijn64tab"], apart := false, laid := [("math/bits.deBruijn64tab", laid_math_bits_deBruijn64tab)] }
def SibsOwnSaid : Prop := sibsOwnRow.holds Tryd.pinned (OpenSpec.ofChange sibsOwnSpec)

/-- ITS FALSE NEIGHBOUR: 'it returns false'. Refute it at one input. -/
def sibsOwnWrong : ChangeSpec := { name := "sibsOwn", fn := fun _ => fun
  | [d] => { results := [.lit (.bool false)], args := [d] }
  | _ => none }
def SibsOwnWrongFalsely : Prop := sibsOwnRow.holds Tryd.pinned (OpenSpec.ofChange sibsOwnWrong)

/- THE SECOND FORM. 'bulk': how many values and letters a reading holds, each counted each time it is reached (what is shared counts as often as it is met; a slice's spare places count too). A statement '..UptoSaid' is the law's where the arguments, and the package variables that the reading takes, are together of bulk at most 1048576: NARROWER than '..Said'. Prove '..Said' where nothing that the law and all that it calls make is longer than what came in: it says more and counts as full. Else prove '..UptoSaid'. A law counts once. -/
mutual
def uptoBulk {H : Type} : DataW H → Nat
  | .lit (.string bytes) => bytes.length + 1
  | .lit _ => 1
  | .nil => 1
  | .ptr d => uptoBulk d + 1
  | .slice elems spare => uptoBulkAll elems + uptoBulkAll spare + 1
  | .agg parts => uptoBulkAll parts + 1
  | .iface _ d => uptoBulk d + 1
  | .map entries => uptoBulkEntries entries + 1
  | .held _ => 1
def uptoBulkAll {H : Type} : List (DataW H) → Nat
  | [] => 0
  | d :: r => uptoBulk d + uptoBulkAll r
def uptoBulkEntries {H : Type} : List (Lit × DataW H) → Nat
  | [] => 0
  | x :: r => uptoBulkEntry x + uptoBulkEntries r
def uptoBulkEntry {H : Type} : Lit × DataW H → Nat
  | (.string bytes, d) => bytes.length + uptoBulk d + 1
  | (_, d) => uptoBulk d + 1
 end
def uptoSmall : (H : Type) → List (DataW H) → Bool := fun _ ds => decide (uptoBulkAll ds ≤ 1048576)
def OpenSpec.upto (s : _root_.Go.ChangeSpec) : _root_.Go.OpenSpec := { _root_.Go.OpenSpec.ofChange s with cond := some uptoSmall }

/-- 'rookerylaw5.SibsPairs', WHERE WHAT IT READS IS OF BULK AT MOST 1048576: true; the input reads as it did. -/
def sibsPairsUptoRow : OpenClaim := { program := "ytokaeiahhmaokaadoor", sum := "1b510c303c1608e22059e1fe312eec5b91275cdaa2da3df55d34e0407545b8d5", func := "rookery/rookerylaw5.SibsPairs", spec := "sibsPairs", inPlace := ["slices.overlaps[rookery/api.Write]"], unfollowed := true, recurses := true, named := ["math/bits.deBruijn64tab"], apart := false, laid := [("math/bits.deBruijn64tab", laid_math_bits_deBruijn64tab)], narrowed := true }
def SibsPairsUptoSaid : Prop := sibsPairsUptoRow.holds Tryd.pinned (OpenSpec.upto sibsPairsSpec)

/-- 'rookerylaw5.SibsGathers', WHERE WHAT IT READS IS OF BULK AT MOST 1048576: true; the input reads as it did. -/
def sibsGathersUptoRow : OpenClaim := { program := "ytokaeiahhmaokaadoor", sum := "1b510c303c1608e22059e1fe312eec5b91275cdaa2da3df55d34e0407545b8d5", func := "rookery/rookerylaw5.SibsGathers", spec := "sibsGathers", inPlace := ["slices.overlaps[rookery/api.Write]"], unfollowed := true, recurses := true, named := ["math/bits.deBruijn64tab"], apart := false, laid := [("math/bits.deBruijn64tab", laid_math_bits_deBruijn64tab)], narrowed := true }
def SibsGathersUptoSaid : Prop := sibsGathersUptoRow.holds Tryd.pinned (OpenSpec.upto sibsGathersSpec)

/-- 'rookerylaw5.SibsClosed', WHERE WHAT IT READS IS OF BULK AT MOST 1048576: true; the input reads as it did. -/
def sibsClosedUptoRow : OpenClaim := { program := "ytokaeiahhmaokaadoor", sum := "1b510c303c1608e22059e1fe312eec5b91275cdaa2da3df55d34e0407545b8d5", func := "rookery/rookerylaw5.SibsClosed", spec := "sibsClosed", inPlace := ["slices.overlaps[rookery/api.Write]"], unfollowed := true, recurses := true, named := ["math/bits.deBruijn64tab"], apart := false, laid := [("math/bits.deBruijn64tab", laid_math_bits_deBruijn64tab)], narrowed := true }
def SibsClosedUptoSaid : Prop := sibsClosedUptoRow.holds Tryd.pinned (OpenSpec.upto sibsClosedSpec)

/-- 'rookerylaw5.SibsOrder', WHERE WHAT IT READS IS OF BULK AT MOST 1048576: true; the input reads as it did. -/
def sibsOrderUptoRow : OpenClaim := { program := "ytokaeiahhmaokaadoor", sum := "1b510c303c1608e22059e1fe312eec5b91275cdaa2da3df55d34e0407545b8d5", func := "rookery/rookerylaw5.SibsOrder", spec := "sibsOrder", inPlace := ["slices.overlaps[rookery/api.Write]"], unfollowed := true, recurses := true, named := ["math/bits.deBruijn64tab"], apart := false, laid := [("math/bits.deBruijn64tab", laid_math_bits_deBruijn64tab)], narrowed := true }
def SibsOrderUptoSaid : Prop := sibsOrderUptoRow.holds Tryd.pinned (OpenSpec.upto sibsOrderSpec)

/-- 'rookerylaw5.SibsWorld', WHERE WHAT IT READS IS OF BULK AT MOST 1048576: true; the input reads as it did. -/
def sibsWorldUptoRow : OpenClaim := { program := "ytokaeiahhmaokaadoor", sum := "1b510c303c1608e22059e1fe312eec5b91275cdaa2da3df55d34e0407545b8d5", func := "rookery/rookerylaw5.SibsWorld", spec := "sibsWorld", inPlace := ["slices.overlaps[rookery/api.Write]"], unfollowed := true, recurses := true, named := ["math/bits.deBruijn64tab"], apart := false, laid := [("math/bits.deBruijn64tab", laid_math_bits_deBruijn64tab)], narrowed := true }
def SibsWorldUptoSaid : Prop := sibsWorldUptoRow.holds Tryd.pinned (OpenSpec.upto sibsWorldSpec)

/-- 'rookerylaw5.SibsFits', WHERE WHAT IT READS IS OF BULK AT MOST 1048576: true; the input reads as it did. -/
def sibsFitsUptoRow : OpenClaim := { program := "ytokaeiahhmaokaadoor", sum := "1b510c303c1608e22059e1fe312eec5b91275cdaa2da3df55d34e0407545b8d5", func := "rookery/rookerylaw5.SibsFits", spec := "sibsFits", inPlace := ["slices.overlaps[rookery/api.Write]"], unfollowed := true, recurses := true, named := ["math/bits.deBruijn64tab"], apart := false, laid := [("math/bits.deBruijn64tab", laid_math_bits_deBruijn64tab)], narrowed := true }
def SibsFitsUptoSaid : Prop := sibsFitsUptoRow.holds Tryd.pinned (OpenSpec.upto sibsFitsSpec)

/-- 'rookerylaw5.SibsTokens', WHERE WHAT IT READS IS OF BULK AT MOST 1048576: true; the input reads as it did. -/
def sibsTokensUptoRow : OpenClaim := { program := "ytokaeiahhmaokaadoor", sum := "1b510c303c1608e22059e1fe312eec5b91275cdaa2da3df55d34e0407545b8d5", func := "rookery/rookerylaw5.SibsTokens", spec := "sibsTokens", inPlace := ["slices.overlaps[rookery/api.Write]"], unfollowed := true, recurses := true, named := ["math/bits.deBruijn64tab"], apart := false, laid := [("math/bits.deBruijn64tab", laid_math_bits_deBruijn64tab)], narrowed := true }
def SibsTokensUptoSaid : Prop := sibsTokensUptoRow.holds Tryd.pinned (OpenSpec.upto sibsTokensSpec)

/-- 'rookerylaw5.SibsOwn', WHERE WHAT IT READS IS OF BULK AT MOST 1048576: true; the input reads as it did. -/
def sibsOwnUptoRow : OpenClaim := { program := "ytokaeiahhmaokaadoor", sum := "1b510c303c1608e22059e1fe312eec5b91275cdaa2da3df55d34e0407545b8d5", func := "rookery/rookerylaw5.SibsOwn", spec := "sibsOwn", inPlace := ["slices.overlaps[rookery/api.Write]"], unfollowed := true, recurses := true, named := ["math/bits.deBruijn64tab"], apart := false, laid := [("math/bits.deBruijn64tab", laid_math_bits_deBruijn64tab)], narrowed := true }
def SibsOwnUptoSaid : Prop := sibsOwnUptoRow.holds Tryd.pinned (OpenSpec.upto sibsOwnSpec)

end Rows
end Go.Proofs.YtokaeiahhmaokaaDoor
