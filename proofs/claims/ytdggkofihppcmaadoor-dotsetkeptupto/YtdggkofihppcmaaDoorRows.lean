/-
  NARROWER THAN 'FOR EVERY INPUT', by the rows' own cells (each row's printed sentence says how): DotsetOne: laid · DotsetLaws: laid · DotsetGrown: laid · DotsetChecks: laid · DotsetHas: laid · DotsetAdds: laid · DotsetUnions: laid · DotsetNumbers: laid · DotsetKept: laid · DotsetMended: laid · DotsetMissing: laid · DotsetAll: laid.
  DERIVED. THE GIVEN ROWS OF THIS SEAT. 12 by the template 'for every input the law returns true; each argument reads behind the call as it read before'; 0 by the template 'total and deterministic' (their statements: YtdggkofihppcmaaDoorTotals.lean).
  GIVEN WITH THE SEED: the statements are not yours to turn. If you find one false, say at which input.
  Laid BY PROGRAM, IN A SANDBOX (cutbox-rows.mjs): the forced cells as the released guide's own fill.sh prints them over the translation 8ddf60cbb94ea193… (all of the seat's roots in one cut). By AI agents, Wed Nov 11 2026. No macro, syntax, notation, axiom, sorry.
-/
import Derived.Test.YtdggkofihppcmaaDoorChecked
import GoSem.Claim
import GoSem.ClaimJoined
import GoSem.ClaimMapViews
import Derived.JoinedTies
import Derived.KernelRfl
namespace Go.Proofs.YtdggkofihppcmaaDoor
/- THE CELL 'sum', in the pinned program and in every row, IS THE sha256 OF THE DUMP (.gsa) THAT YtdggkofihppcmaaDoorProg.lean LOADS. Nothing in Lean hashes anything: it is a label: what it is worth is what the hold of that sum in a sandbox is worth. -/
noncomputable def Tryd.pinned : Pinned := { name := "ytdggkofihppcmaadoor", sum := "8ddf60cbb94ea19332b67b9c0a5c1626e7d90699280e8efe5e829de0eb7ec04c", checked := Tryd.checked }
namespace Rows
def none {H : Type} : Left H := { results := [], args := [] }

/- WHAT THE LISTED PACKAGE-LEVEL VARIABLES READ AS WHEN THE CALL BEGINS. Each datum BY PROGRAM (the guide's laid-datum.mjs) off the statement by which the dump's own 'gosem.cut.vars' lays the variable. In a bare row this is a premise. The card (YtdggkofihppcmaaDoorCards.lean) ties it to the program's text. -/
def laid_math_bits_deBruijn64tab {H : Type} : DataW H := .agg [.lit (.int .u8 0), .lit (.int .u8 1), .lit (.int .u8 56), .lit (.int .u8 2), .lit (.int .u8 57), .lit (.int .u8 49), .lit (.int .u8 28), .lit (.int .u8 3), .lit (.int .u8 61), .lit (.int .u8 58), .lit (.int .u8 42), .lit (.int .u8 50), .lit (.int .u8 38), .lit (.int .u8 29), .lit (.int .u8 17), .lit (.int .u8 4), .lit (.int .u8 62), .lit (.int .u8 47), .lit (.int .u8 59), .lit (.int .u8 36), .lit (.int .u8 45), .lit (.int .u8 43), .lit (.int .u8 51), .lit (.int .u8 22), .lit (.int .u8 53), .lit (.int .u8 39), .lit (.int .u8 33), .lit (.int .u8 30), .lit (.int .u8 24), .lit (.int .u8 18), .lit (.int .u8 12), .lit (.int .u8 5), .lit (.int .u8 63), .lit (.int .u8 55), .lit (.int .u8 48), .lit (.int .u8 27), .lit (.int .u8 60), .lit (.int .u8 41), .lit (.int .u8 37), .lit (.int .u8 16), .lit (.int .u8 46), .lit (.int .u8 35), .lit (.int .u8 44), .lit (.int .u8 21), .lit (.int .u8 52), .lit (.int .u8 32), .lit (.int .u8 23), .lit (.int .u8 11), .lit (.int .u8 54), .lit (.int .u8 26), .lit (.int .u8 40), .lit (.int .u8 15), .lit (.int .u8 34), .lit (.int .u8 20), .lit (.int .u8 31), .lit (.int .u8 10), .lit (.int .u8 25), .lit (.int .u8 14), .lit (.int .u8 19), .lit (.int .u8 9), .lit (.int .u8 13), .lit (.int .u8 8), .lit (.int .u8 7), .lit (.int .u8 6)]

/-- 'rookerylaw3.DotsetOne': WHATEVER THE INPUT: true; the input reads as it did. -/
def dotsetOneSpec : ChangeSpec := { name := "dotsetOne", fn := fun _ => fun
  | [d1, d2] => { results := [.lit (.bool true)], args := [d1, d2] }
  | _ => none }
def dotsetOneRow : OpenClaim := { program := "ytdggkofihppcmaadoor", sum := "8ddf60cbb94ea19332b67b9c0a5c1626e7d90699280e8efe5e829de0eb7ec04c", func := "rookery/rookerylaw3.DotsetOne", spec := "dotsetOne", unfollowed := true, recurses := true, named := ["math/bits.deBruijn64tab"], apart := false, laid := [("math/bits.deBruijn64tab", laid_math_bits_deBruijn64tab)] }
def DotsetOneSaid : Prop := dotsetOneRow.holds Tryd.pinned (OpenSpec.ofChange dotsetOneSpec)

/-- ITS FALSE NEIGHBOUR: 'it returns false'. Refute it at one input. -/
def dotsetOneWrong : ChangeSpec := { name := "dotsetOne", fn := fun _ => fun
  | [d1, d2] => { results := [.lit (.bool false)], args := [d1, d2] }
  | _ => none }
def DotsetOneWrongFalsely : Prop := dotsetOneRow.holds Tryd.pinned (OpenSpec.ofChange dotsetOneWrong)

/-- 'rookerylaw3.DotsetLaws': WHATEVER THE INPUT: true; the input reads as it did. -/
def dotsetLawsSpec : ChangeSpec := { name := "dotsetLaws", fn := fun _ => fun
  | [d1, d2, d3, d4, d5] => { results := [.lit (.bool true)], args := [d1, d2, d3, d4, d5] }
  | _ => none }
def dotsetLawsRow : OpenClaim := { program := "ytdggkofihppcmaadoor", sum := "8ddf60cbb94ea19332b67b9c0a5c1626e7d90699280e8efe5e829de0eb7ec04c", func := "rookery/rookerylaw3.DotsetLaws", spec := "dotsetLaws", unfollowed := true, recurses := true, named := ["math/bits.deBruijn64tab"], apart := false, laid := [("math/bits.deBruijn64tab", laid_math_bits_deBruijn64tab)] }
def DotsetLawsSaid : Prop := dotsetLawsRow.holds Tryd.pinned (OpenSpec.ofChange dotsetLawsSpec)

/-- ITS FALSE NEIGHBOUR: 'it returns false'. Refute it at one input. -/
def dotsetLawsWrong : ChangeSpec := { name := "dotsetLaws", fn := fun _ => fun
  | [d1, d2, d3, d4, d5] => { results := [.lit (.bool false)], args := [d1, d2, d3, d4, d5] }
  | _ => none }
def DotsetLawsWrongFalsely : Prop := dotsetLawsRow.holds Tryd.pinned (OpenSpec.ofChange dotsetLawsWrong)

/-- 'rookerylaw3.DotsetGrown': WHATEVER THE INPUT: true; the input reads as it did. -/
def dotsetGrownSpec : ChangeSpec := { name := "dotsetGrown", fn := fun _ => fun
  | [d1, d2, d3] => { results := [.lit (.bool true)], args := [d1, d2, d3] }
  | _ => none }
def dotsetGrownRow : OpenClaim := { program := "ytdggkofihppcmaadoor", sum := "8ddf60cbb94ea19332b67b9c0a5c1626e7d90699280e8efe5e829de0eb7ec04c", func := "rookery/rookerylaw3.DotsetGrown", spec := "dotsetGrown", unfollowed := true, recurses := true, named := ["math/bits.deBruijn64tab"], apart := false, laid := [("math/bits.deBruijn64tab", laid_math_bits_deBruijn64tab)] }
def DotsetGrownSaid : Prop := dotsetGrownRow.holds Tryd.pinned (OpenSpec.ofChange dotsetGrownSpec)

/-- ITS FALSE NEIGHBOUR: 'it returns false'. Refute it at one input. -/
def dotsetGrownWrong : ChangeSpec := { name := "dotsetGrown", fn := fun _ => fun
  | [d1, d2, d3] => { results := [.lit (.bool false)], args := [d1, d2, d3] }
  | _ => none }
def DotsetGrownWrongFalsely : Prop := dotsetGrownRow.holds Tryd.pinned (OpenSpec.ofChange dotsetGrownWrong)

/-- 'rookerylaw3.DotsetChecks': WHATEVER THE INPUT: true; the input reads as it did. -/
def dotsetChecksSpec : ChangeSpec := { name := "dotsetChecks", fn := fun _ => fun
  | [d] => { results := [.lit (.bool true)], args := [d] }
  | _ => none }
def dotsetChecksRow : OpenClaim := { program := "ytdggkofihppcmaadoor", sum := "8ddf60cbb94ea19332b67b9c0a5c1626e7d90699280e8efe5e829de0eb7ec04c", func := "rookery/rookerylaw3.DotsetChecks", spec := "dotsetChecks", unfollowed := true, recurses := true, named := ["math/bits.deBruijn64tab"], apart := false, laid := [("math/bits.deBruijn64tab", laid_math_bits_deBruijn64tab)] }
def DotsetChecksSaid : Prop := dotsetChecksRow.holds Tryd.pinned (OpenSpec.ofChange dotsetChecksSpec)

/-- ITS FALSE NEIGHBOUR: 'it returns false'. Refute it at one input. -/
def dotsetChecksWrong : ChangeSpec := { name := "dotsetChecks", fn := fun _ => fun
  | [d] => { results := [.lit (.bool false)], args := [d] }
  | _ => none }
def DotsetChecksWrongFalsely : Prop := dotsetChecksRow.holds Tryd.pinned (OpenSpec.ofChange dotsetChecksWrong)

/-- 'rookerylaw3.DotsetHas': WHATEVER THE INPUT: true; the input reads as it did. -/
def dotsetHasSpec : ChangeSpec := { name := "dotsetHas", fn := fun _ => fun
  | [d] => { results := [.lit (.bool true)], args := [d] }
  | _ => none }
def dotsetHasRow : OpenClaim := { program := "ytdggkofihppcmaadoor", sum := "8ddf60cbb94ea19332b67b9c0a5c1626e7d90699280e8efe5e829de0eb7ec04c", func := "rookery/rookerylaw3.DotsetHas", spec := "dotsetHas", unfollowed := true, recurses := true, named := ["math/bits.deBruijn64tab"], apart := false, laid := [("math/bits.deBruijn64tab", laid_math_bits_deBruijn64tab)] }
def DotsetHasSaid : Prop := dotsetHasRow.holds Tryd.pinned (OpenSpec.ofChange dotsetHasSpec)

/-- ITS FALSE NEIGHBOUR: 'it returns false'. Refute it at one input. -/
def dotsetHasWrong : ChangeSpec := { name := "dotsetHas", fn := fun _ => fun
  | [d] => { results := [.lit (.bool false)], args := [d] }
  | _ => none }
def DotsetHasWrongFalsely : Prop := dotsetHasRow.holds Tryd.pinned (OpenSpec.ofChange dotsetHasWrong)

/-- 'rookerylaw3.DotsetAdds': WHATEVER THE INPUT: true; the input reads as it did. -/
def dotsetAddsSpec : ChangeSpec := { name := "dotsetAdds", fn := fun _ => fun
  | [d] => { results := [.lit (.bool true)], args := [d] }
  | _ => none }
def dotsetAddsRow : OpenClaim := { program := "ytdggkofihppcmaadoor", sum := "8ddf60cbb94ea19332b67b9c0a5c1626e7d90699280e8efe5e829de0eb7ec04c", func := "rookery/rookerylaw3.DotsetAdds", spec := "dotsetAdds", unfollowed := true, recurses := true, named := ["math/bits.deBruijn64tab"], apart := false, laid := [("math/bits.deBruijn64tab", laid_math_bits_deBruijn64tab)] }
def DotsetAddsSaid : Prop := dotsetAddsRow.holds Tryd.pinned (OpenSpec.ofChange dotsetAddsSpec)

/-- ITS FALSE NEIGHBOUR: 'it returns false'. Refute it at one input. -/
def dotsetAddsWrong : ChangeSpec := { name := "dotsetAdds", fn := fun _ => fun
  | [d] => { results := [.lit (.bool false)], args := [d] }
  | _ => none }
def DotsetAddsWrongFalsely : Prop := dotsetAddsRow.holds Tryd.pinned (OpenSpec.ofChange dotsetAddsWrong)

/-- 'rookerylaw3.DotsetUnions': WHATEVER THE INPUT: true; the input reads as it did. -/
def dotsetUnionsSpec : ChangeSpec := { name := "dotsetUnions", fn := fun _ => fun
  | [d] => { results := [.lit (.bool true)], args := [d] }
  | _ => none }
def dotsetUnionsRow : OpenClaim := { program := "ytdggkofihppcmaadoor", sum := "8ddf60cbb94ea19332b67b9c0a5c1626e7d90699280e8efe5e829de0eb7ec04c", func := "rookery/rookerylaw3.DotsetUnions", spec := "dotsetUnions", unfollowed := true, recurses := true, named := ["math/bits.deBruijn64tab"], apart := false, laid := [("math/bits.deBruijn64tab", laid_math_bits_deBruijn64tab)] }
def DotsetUnionsSaid : Prop := dotsetUnionsRow.holds Tryd.pinned (OpenSpec.ofChange dotsetUnionsSpec)

/-- ITS FALSE NEIGHBOUR: 'it returns false'. Refute it at one input. -/
def dotsetUnionsWrong : ChangeSpec := { name := "dotsetUnions", fn := fun _ => fun
  | [d] => { results := [.lit (.bool false)], args := [d] }
  | _ => none }
def DotsetUnionsWrongFalsely : Prop := dotsetUnionsRow.holds Tryd.pinned (OpenSpec.ofChange dotsetUnionsWrong)

/-- 'rookerylaw3.DotsetNumbers': WHATEVER THE INPUT: true; the input reads as it did. -/
def dotsetNumbersSpec : ChangeSpec := { name := "dotsetNumbers", fn := fun _ => fun
  | [d] => { results := [.lit (.bool true)], args := [d] }
  | _ => none }
def dotsetNumbersRow : OpenClaim := { program := "ytdggkofihppcmaadoor", sum := "8ddf60cbb94ea19332b67b9c0a5c1626e7d90699280e8efe5e829de0eb7ec04c", func := "rookery/rookerylaw3.DotsetNumbers", spec := "dotsetNumbers", unfollowed := true, recurses := true, named := ["math/bits.deBruijn64tab"], apart := false, laid := [("math/bits.deBruijn64tab", laid_math_bits_deBruijn64tab)] }
def DotsetNumbersSaid : Prop := dotsetNumbersRow.holds Tryd.pinned (OpenSpec.ofChange dotsetNumbersSpec)

/-- ITS FALSE NEIGHBOUR: 'it returns false'. Refute it at one input. -/
def dotsetNumbersWrong : ChangeSpec := { name := "dotsetNumbers", fn := fun _ => fun
  | [d] => { results := [.lit (.bool false)], args := [d] }
  | _ => none }
def DotsetNumbersWrongFalsely : Prop := dotsetNumbersRow.holds Tryd.pinned (OpenSpec.ofChange dotsetNumbersWrong)

/-- 'rookerylaw3.DotsetKept': WHATEVER THE INPUT: true; the input reads as it did. -/
def dotsetKeptSpec : ChangeSpec := { name := "dotsetKept", fn := fun _ => fun
  | [d] => { results := [.lit (.bool true)], args := [d] }
  | _ => none }
def dotsetKeptRow : OpenClaim := { program := "ytdggkofihppcmaadoor", sum := "8ddf60cbb94ea19332b67b9c0a5c1626e7d90699280e8efe5e829de0eb7ec04c", func := "rookery/rookerylaw3.DotsetKept", spec := "dotsetKept", unfollowed := true, recurses := true, named := ["math/bits.deBruijn64tab"], apart := false, laid := [("math/bits.deBruijn64tab", laid_math_bits_deBruijn64tab)] }
def DotsetKeptSaid : Prop := dotsetKeptRow.holds Tryd.pinned (OpenSpec.ofChange dotsetKeptSpec)

/-- ITS FALSE NEIGHBOUR: 'it returns false'. Refute it at one input. -/
def dotsetKeptWrong : ChangeSpec := { name := "dotsetKept", fn := fun _ => fun
  | [d] => { results := [.lit (.bool false)], args := [d] }
  | _ => none }
def DotsetKeptWrongFalsely : Prop := dotsetKeptRow.holds Tryd.pinned (OpenSpec.ofChange dotsetKeptWrong)

/-- 'rookerylaw3.DotsetMended': WHATEVER THE INPUT: true; the input reads as it did. -/
def dotsetMendedSpec : ChangeSpec := { name := "dotsetMended", fn := fun _ => fun
  | [d1, d2, d3] => { results := [.lit (.bool true)], args := [d1, d2, d3] }
  | _ => none }
def dotsetMendedRow : OpenClaim := { program := "ytdggkofihppcmaadoor", sum := "8ddf60cbb94ea19332b67b9c0a5c1626e7d90699280e8efe5e829de0eb7ec04c", func := "rookery/rookerylaw3.DotsetMended", spec := "dotsetMended", unfollowed := true, recurses := true, named := ["math/bits.deBruijn64tab"], apart := false, laid := [("math/bits.deBruijn64tab", laid_math_bits_deBruijn64tab)] }
def DotsetMendedSaid : Prop := dotsetMendedRow.holds Tryd.pinned (OpenSpec.ofChange dotsetMendedSpec)

/-- ITS FALSE NEIGHBOUR: 'it returns false'. Refute it at one input. -/
def dotsetMendedWrong : ChangeSpec := { name := "dotsetMended", fn := fun _ => fun
  | [d1, d2, d3] => { results := [.lit (.bool false)], args := [d1, d2, d3] }
  | _ => none }
def DotsetMendedWrongFalsely : Prop := dotsetMendedRow.holds Tryd.pinned (OpenSpec.ofChange dotsetMendedWrong)

/-- 'rookerylaw3.DotsetMissing': WHATEVER THE INPUT: true; the input reads as it did. -/
def dotsetMissingSpec : ChangeSpec := { name := "dotsetMissing", fn := fun _ => fun
  | [d] => { results := [.lit (.bool true)], args := [d] }
  | _ => none }
def dotsetMissingRow : OpenClaim := { program := "ytdggkofihppcmaadoor", sum := "8ddf60cbb94ea19332b67b9c0a5c1626e7d90699280e8efe5e829de0eb7ec04c", func := "rookery/rookerylaw3.DotsetMissing", spec := "dotsetMissing", unfollowed := true, recurses := true, named := ["math/bits.deBruijn64tab"], apart := false, laid := [("math/bits.deBruijn64tab", laid_math_bits_deBruijn64tab)] }
def DotsetMissingSaid : Prop := dotsetMissingRow.holds Tryd.pinned (OpenSpec.ofChange dotsetMissingSpec)

/-- ITS FALSE NEIGHBOUR: 'it returns false'. Refute it at one input. -/
def dotsetMissingWrong : ChangeSpec := { name := "dotsetMissing", fn := fun _ => fun
  | [d] => { results := [.lit (.bool false)], args := [d] }
  | _ => none }
def DotsetMissingWrongFalsely : Prop := dotsetMissingRow.holds Tryd.pinned (OpenSpec.ofChange dotsetMissingWrong)

/-- 'rookerylaw3.DotsetAll': WHATEVER THE INPUT: true; the input reads as it did. -/
def dotsetAllSpec : ChangeSpec := { name := "dotsetAll", fn := fun _ => fun
  | [d] => { results := [.lit (.bool true)], args := [d] }
  | _ => none }
def dotsetAllRow : OpenClaim := { program := "ytdggkofihppcmaadoor", sum := "8ddf60cbb94ea19332b67b9c0a5c1626e7d90699280e8efe5e829de0eb7ec04c", func := "rookery/rookerylaw3.DotsetAll", spec := "dotsetAll", unfollowed := true, recurses := true, named := ["math/bits.deBruijn64tab"], apart := false, laid := [("math/bits.deBruijn64tab", laid_math_bits_deBruijn64tab)] }
def DotsetAllSaid : Prop := dotsetAllRow.holds Tryd.pinned (OpenSpec.ofChange dotsetAllSpec)

/-- ITS FALSE NEIGHBOUR: 'it returns false'. Refute it at one input. -/
def dotsetAllWrong : ChangeSpec := { name := "dotsetAll", fn := fun _ => fun
  | [d] => { results := [.lit (.bool false)], args := [d] }
  | _ => none }
def DotsetAllWrongFalsely : Prop := dotsetAllRow.holds Tryd.pinned (OpenSpec.ofChange dotsetAllWrong)

/- THE SECOND FORM. 'bulk': how many values and letters a reading holds, each counted each time it is reached (what is shared counts as often as it is met; a slice's spare places count too). A statement '..UptoSaid' is the law's where the arguments, and the package variables that the reading takes, are together of bulk at most 1048576: NARROWER than '..Said'. Prove '..Said' where nothing that the law and all that it calls make is longer than what came in: it says more and counts as full. Else prove '..UptoSaid'. A law counts once. -/
mutual
def uptoBulk {H : Type} : DataW H → Nat
  | .lit (.string bytes) => bytes.length + 1
  | .lit _ => 1
  | .nil => 1
  | .ptr d => uptoBulk d + 1
  | .slice elems spare => uptoBulkAll elems + uptoBulkAll spare + 1
  | .agg parts => uptoBulkAll parts + 1
  | .iface _ d => uptoBulk d + 1
  | .map entries => uptoBulkEntries entries + 1
  | .held _ => 1
def uptoBulkAll {H : Type} : List (DataW H) → Nat
  | [] => 0
  | d :: r => uptoBulk d + uptoBulkAll r
def uptoBulkEntries {H : Type} : List (Lit × DataW H) → Nat
  | [] => 0
  | x :: r => uptoBulkEntry x + uptoBulkEntries r
def uptoBulkEntry {H : Type} : Lit × DataW H → Nat
  | (.string bytes, d) => bytes.length + uptoBulk d + 1
  | (_, d) => uptoBulk d + 1
 end
def uptoSmall : (H : Type) → List (DataW H) → Bool := fun _ ds => decide (uptoBulkAll ds ≤ 1048576)
def OpenSpec.upto (s : _root_.Go.ChangeSpec) : _root_.Go.OpenSpec := { _root_.Go.OpenSpec.ofChange s with cond := some uptoSmall }

/-- 'rookerylaw3.DotsetOne', WHERE WHAT IT READS IS OF BULK AT MOST 1048576: true; the input reads as it did. -/
def dotsetOneUptoRow : OpenClaim := { program := "ytdggkofihppcmaadoor", sum := "8ddf60cbb94ea19332b67b9c0a5c1626e7d90699280e8efe5e829de0eb7ec04c", func := "rookery/rookerylaw3.DotsetOne", spec := "dotsetOne", unfollowed := true, recurses := true, named := ["math/bits.deBruijn64tab"], apart := false, laid := [("math/bits.deBruijn64tab", laid_math_bits_deBruijn64tab)], narrowed := true }
def DotsetOneUptoSaid : Prop := dotsetOneUptoRow.holds Tryd.pinned (OpenSpec.upto dotsetOneSpec)

/-- 'rookerylaw3.DotsetLaws', WHERE WHAT IT READS IS OF BULK AT MOST 1048576: true; the input reads as it did. -/
def dotsetLawsUptoRow : OpenClaim := { program := "ytdggkofihppcmaadoor", sum := "8ddf60cbb94ea19332b67b9c0a5c1626e7d90699280e8efe5e829de0eb7ec04c", func := "rookery/rookerylaw3.DotsetLaws", spec := "dotsetLaws", unfollowed := true, recurses := true, named := ["math/bits.deBruijn64tab"], apart := false, laid := [("math/bits.deBruijn64tab", laid_math_bits_deBruijn64tab)], narrowed := true }
def DotsetLawsUptoSaid : Prop := dotsetLawsUptoRow.holds Tryd.pinned (OpenSpec.upto dotsetLawsSpec)

/-- 'rookerylaw3.DotsetGrown', WHERE WHAT IT READS IS OF BULK AT MOST 1048576: true; the input reads as it did. -/
def dotsetGrownUptoRow : OpenClaim := { program := "ytdggkofihppcmaadoor", sum := "8ddf60cbb94ea19332b67b9c0a5c1626e7d90699280e8efe5e829de0eb7ec04c", func := "rookery/rookerylaw3.DotsetGrown", spec := "dotsetGrown", unfollowed := true, recurses := true, named := ["math/bits.deBruijn64tab"], apart := false, laid := [("math/bits.deBruijn64tab", laid_math_bits_deBruijn64tab)], narrowed := true }
def DotsetGrownUptoSaid : Prop := dotsetGrownUptoRow.holds Tryd.pinned (OpenSpec.upto dotsetGrownSpec)

/-- 'rookerylaw3.DotsetChecks', WHERE WHAT IT READS IS OF BULK AT MOST 1048576: true; the input reads as it did. -/
def dotsetChecksUptoRow : OpenClaim := { program := "ytdggkofihppcmaadoor", sum := "8ddf60cbb94ea19332b67b9c0a5c1626e7d90699280e8efe5e829de0eb7ec04c", func := "rookery/rookerylaw3.DotsetChecks", spec := "dotsetChecks", unfollowed := true, recurses := true, named := ["math/bits.deBruijn64tab"], apart := false, laid := [("math/bits.deBruijn64tab", laid_math_bits_deBruijn64tab)], narrowed := true }
def DotsetChecksUptoSaid : Prop := dotsetChecksUptoRow.holds Tryd.pinned (OpenSpec.upto dotsetChecksSpec)

/-- 'rookerylaw3.DotsetHas', WHERE WHAT IT READS IS OF BULK AT MOST 1048576: true; the input reads as it did. -/
def dotsetHasUptoRow : OpenClaim := { program := "ytdggkofihppcmaadoor", sum := "8ddf60cbb94ea19332b67b9c0a5c1626e7d90699280e8efe5e829de0eb7ec04c", func := "rookery/rookerylaw3.DotsetHas", spec := "dotsetHas", unfollowed := true, recurses := true, named := ["math/bits.deBruijn64tab"], apart := false, laid := [("math/bits.deBruijn64tab", laid_math_bits_deBruijn64tab)], narrowed := true }
def DotsetHasUptoSaid : Prop := dotsetHasUptoRow.holds Tryd.pinned (OpenSpec.upto dotsetHasSpec)

/-- 'rookerylaw3.DotsetAdds', WHERE WHAT IT READS IS OF BULK AT MOST 1048576: true; the input reads as it did. -/
def dotsetAddsUptoRow : OpenClaim := { program := "ytdggkofihppcmaadoor", sum := "8ddf60cbb94ea19332b67b9c0a5c1626e7d90699280e8efe5e829de0eb7ec04c", func := "rookery/rookerylaw3.DotsetAdds", spec := "dotsetAdds", unfollowed := true, recurses := true, named := ["math/bits.deBruijn64tab"], apart := false, laid := [("math/bits.deBruijn64tab", laid_math_bits_deBruijn64tab)], narrowed := true }
def DotsetAddsUptoSaid : Prop := dotsetAddsUptoRow.holds Tryd.pinned (OpenSpec.upto dotsetAddsSpec)

/-- 'rookerylaw3.DotsetUnions', WHERE WHAT IT READS IS OF BULK AT MOST 1048576: true; the input reads as it did. -/
def dotsetUnionsUptoRow : OpenClaim := { program := "ytdggkofihppcmaadoor", sum := "8ddf60cbb94ea19332b67b9c0a5c1626e7d90699280e8efe5e829de0eb7ec04c", func := "rookery/rookerylaw3.DotsetUnions", spec := "dotsetUnions", unfollowed := true, recurses := true, named := ["math/bits.deBruijn64tab"], apart := false, laid := [("math/bits.deBruijn64tab", laid_math_bits_deBruijn64tab)], narrowed := true }
def DotsetUnionsUptoSaid : Prop := dotsetUnionsUptoRow.holds Tryd.pinned (OpenSpec.upto dotsetUnionsSpec)

/-- 'rookerylaw3.DotsetNumbers', WHERE WHAT IT READS IS OF BULK AT MOST 1048576: true; the input reads as it did. -/
def dotsetNumbersUptoRow : OpenClaim := { program := "ytdggkofihppcmaadoor", sum := "8ddf60cbb94ea19332b67b9c0a5c1626e7d90699280e8efe5e829de0eb7ec04c", func := "rookery/rookerylaw3.DotsetNumbers", spec := "dotsetNumbers", unfollowed := true, recurses := true, named := ["math/bits.deBruijn64tab"], apart := false, laid := [("math/bits.deBruijn64tab", laid_math_bits_deBruijn64tab)], narrowed := true }
def DotsetNumbersUptoSaid : Prop := dotsetNumbersUptoRow.holds Tryd.pinned (OpenSpec.upto dotsetNumbersSpec)

/-- 'rookerylaw3.DotsetKept', WHERE WHAT IT READS IS OF BULK AT MOST 1048576: true; the input reads as it did. -/
def dotsetKeptUptoRow : OpenClaim := { program := "ytdggkofihppcmaadoor", sum := "8ddf60cbb94ea19332b67b9c0a5c1626e7d90699280e8efe5e829de0eb7ec04c", func := "rookery/rookerylaw3.DotsetKept", spec := "dotsetKept", unfollowed := true, recurses := true, named := ["math/bits.deBruijn64tab"], apart := false, laid := [("math/bits.deBruijn64tab", laid_math_bits_deBruijn64tab)], narrowed := true }
def DotsetKeptUptoSaid : Prop := dotsetKeptUptoRow.holds Tryd.pinned (OpenSpec.upto dotsetKeptSpec)

/-- 'rookerylaw3.DotsetMended', WHERE WHAT IT READS IS OF BULK AT MOST 1048576: true; the input reads as it did. -/
def dotsetMendedUptoRow : OpenClaim := { program := "ytdggkofihppcmaadoor", sum := "8ddf60cbb94ea19332b67b9c0a5c1626e7d90699280e8efe5e829de0eb7ec04c", func := "rookery/rookerylaw3.DotsetMended", spec := "dotsetMended", unfollowed := true, recurses := true, named := ["math/bits.deBruijn64tab"], apart := false, laid := [("math/bits.deBruijn64tab", laid_math_bits_deBruijn64tab)], narrowed := true }
def DotsetMendedUptoSaid : Prop := dotsetMendedUptoRow.holds Tryd.pinned (OpenSpec.upto dotsetMendedSpec)

/-- 'rookerylaw3.DotsetMissing', WHERE WHAT IT READS IS OF BULK AT MOST 1048576: true; the input reads as it did. -/
def dotsetMissingUptoRow : OpenClaim := { program := "ytdggkofihppcmaadoor", sum := "8ddf60cbb94ea19332b67b9c0a5c1626e7d90699280e8efe5e829de0eb7ec04c", func := "rookery/rookerylaw3.DotsetMissing", spec := "dotsetMissing", unfollowed := true, recurses := true, named := ["math/bits.deBruijn64tab"], apart := false, laid := [("math/bits.deBruijn64tab", laid_math_bits_deBruijn64tab)], narrowed := true }
def DotsetMissingUptoSaid : Prop := dotsetMissingUptoRow.holds Tryd.pinned (OpenSpec.upto dotsetMissingSpec)

/-- 'rookerylaw3.DotsetAll', WHERE WHAT IT READS IS OF BULK AT MOST 1048576: true; the input reads as it did. -/
def dotsetAllUptoRow : OpenClaim := { program := "ytdggkofihppcmaadoor", sum := "8ddf60cbb94ea19332b67b9c0a5c1626e7d90699280e8efe5e829de0eb7ec04c", func := "rookery/rookerylaw3.DotsetAll", spec := "dotsetAll", unfollowed := true, recurses := true, named := ["math/bits.deBruijn64tab"], apart := false, laid := [("math/bits.deBruijn64tab", laid_math_bits_deBruijn64tab)], narrowed := true }
def DotsetAllUptoSaid : Prop := dotsetAllUptoRow.holds Tryd.pinned (OpenSpec.upto dotsetAllSpec)

end Rows
end Go.Proofs.YtdggkofihppcmaaDoor
