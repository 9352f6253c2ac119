/-
  No cell of these rows narrows 'for every input' (looked for: loops, veiled, ifaces, maps, wideKeys, modest, calm, conditions, laid).
  DERIVED. THE GIVEN ROWS OF THIS SEAT. 5 by the template 'for every input the law returns true; each argument reads behind the call as it read before'; 0 by the template 'total and deterministic' (their statements: YtdbeeikjngnnnaaGreatTotals.lean).
  GIVEN WITH THE SEED: the statements are not yours to turn. If you find one false, say at which input.
  Laid BY PROGRAM, IN A SANDBOX (cutbox-rows.mjs): the forced cells as the released guide's own fill.sh prints them over the translation 9663958edf9d8173… (all of the seat's roots in one cut). By AI agents, Wed Nov 11 2026. No macro, syntax, notation, axiom, sorry.
-/
import Derived.Test.YtdbeeikjngnnnaaGreatChecked
import GoSem.Claim
import GoSem.ClaimJoined
import GoSem.ClaimMapViews
import Derived.JoinedTies
import Derived.KernelRfl
namespace Go.Proofs.YtdbeeikjngnnnaaGreat
/- THE CELL 'sum', in the pinned program and in every row, IS THE sha256 OF THE DUMP (.gsa) THAT YtdbeeikjngnnnaaGreatProg.lean LOADS. Nothing in Lean hashes anything: it is a label: what it is worth is what the hold of that sum in a sandbox is worth. -/
noncomputable def Tryz.pinned : Pinned := { name := "ytdbeeikjngnnnaagreat", sum := "9663958edf9d8173d264494c5834a3b4fa756240f4bfd59abfeb274406f62674", checked := Tryz.checked }
namespace Rows
def none {H : Type} : Left H := { results := [], args := [] }

/-- 'rookerylaw19.TypesDone': WHATEVER THE INPUT: true; the input reads as it did. -/
def typesDoneSpec : ChangeSpec := { name := "typesDone", fn := fun _ => fun
  | [d1, d2] => { results := [.lit (.bool true)], args := [d1, d2] }
  | _ => none }
def typesDoneRow : OpenClaim := { program := "ytdbeeikjngnnnaagreat", sum := "9663958edf9d8173d264494c5834a3b4fa756240f4bfd59abfeb274406f62674", func := "rookery/rookerylaw19.TypesDone", spec := "typesDone", unfollowed := true, recurses := true, apart := false }
def TypesDoneSaid : Prop := typesDoneRow.holds Tryz.pinned (OpenSpec.ofChange typesDoneSpec)

/-- ITS FALSE NEIGHBOUR: 'it returns false'. Refute it at one input. -/
def typesDoneWrong : ChangeSpec := { name := "typesDone", fn := fun _ => fun
  | [d1, d2] => { results := [.lit (.bool false)], args := [d1, d2] }
  | _ => none }
def TypesDoneWrongFalsely : Prop := typesDoneRow.holds Tryz.pinned (OpenSpec.ofChange typesDoneWrong)

/-- 'rookerylaw19.TypesMerges': WHATEVER THE INPUT: true; the input reads as it did. -/
def typesMergesSpec : ChangeSpec := { name := "typesMerges", fn := fun _ => fun
  | [d1, d2] => { results := [.lit (.bool true)], args := [d1, d2] }
  | _ => none }
def typesMergesRow : OpenClaim := { program := "ytdbeeikjngnnnaagreat", sum := "9663958edf9d8173d264494c5834a3b4fa756240f4bfd59abfeb274406f62674", func := "rookery/rookerylaw19.TypesMerges", spec := "typesMerges", unfollowed := true, recurses := true, apart := false }
def TypesMergesSaid : Prop := typesMergesRow.holds Tryz.pinned (OpenSpec.ofChange typesMergesSpec)

/-- ITS FALSE NEIGHBOUR: 'it returns false'. Refute it at one input. -/
def typesMergesWrong : ChangeSpec := { name := "typesMerges", fn := fun _ => fun
  | [d1, d2] => { results := [.lit (.bool false)], args := [d1, d2] }
  | _ => none }
def TypesMergesWrongFalsely : Prop := typesMergesRow.holds Tryz.pinned (OpenSpec.ofChange typesMergesWrong)

/-- 'rookerylaw19.TypesReads': WHATEVER THE INPUT: true; the input reads as it did. -/
def typesReadsSpec : ChangeSpec := { name := "typesReads", fn := fun _ => fun
  | [d1, d2] => { results := [.lit (.bool true)], args := [d1, d2] }
  | _ => none }
def typesReadsRow : OpenClaim := { program := "ytdbeeikjngnnnaagreat", sum := "9663958edf9d8173d264494c5834a3b4fa756240f4bfd59abfeb274406f62674", func := "rookery/rookerylaw19.TypesReads", spec := "typesReads", unfollowed := true, recurses := true, apart := false }
def TypesReadsSaid : Prop := typesReadsRow.holds Tryz.pinned (OpenSpec.ofChange typesReadsSpec)

/-- ITS FALSE NEIGHBOUR: 'it returns false'. Refute it at one input. -/
def typesReadsWrong : ChangeSpec := { name := "typesReads", fn := fun _ => fun
  | [d1, d2] => { results := [.lit (.bool false)], args := [d1, d2] }
  | _ => none }
def TypesReadsWrongFalsely : Prop := typesReadsRow.holds Tryz.pinned (OpenSpec.ofChange typesReadsWrong)

/-- 'rookerylaw19.TypesResolves': WHATEVER THE INPUT: true; the input reads as it did. -/
def typesResolvesSpec : ChangeSpec := { name := "typesResolves", fn := fun _ => fun
  | [d1, d2] => { results := [.lit (.bool true)], args := [d1, d2] }
  | _ => none }
def typesResolvesRow : OpenClaim := { program := "ytdbeeikjngnnnaagreat", sum := "9663958edf9d8173d264494c5834a3b4fa756240f4bfd59abfeb274406f62674", func := "rookery/rookerylaw19.TypesResolves", spec := "typesResolves", unfollowed := true, recurses := true, apart := false }
def TypesResolvesSaid : Prop := typesResolvesRow.holds Tryz.pinned (OpenSpec.ofChange typesResolvesSpec)

/-- ITS FALSE NEIGHBOUR: 'it returns false'. Refute it at one input. -/
def typesResolvesWrong : ChangeSpec := { name := "typesResolves", fn := fun _ => fun
  | [d1, d2] => { results := [.lit (.bool false)], args := [d1, d2] }
  | _ => none }
def TypesResolvesWrongFalsely : Prop := typesResolvesRow.holds Tryz.pinned (OpenSpec.ofChange typesResolvesWrong)

/-- 'rookerylaw19.TypesAll': WHATEVER THE INPUT: true; the input reads as it did. -/
def typesAllSpec : ChangeSpec := { name := "typesAll", fn := fun _ => fun
  | [d1, d2] => { results := [.lit (.bool true)], args := [d1, d2] }
  | _ => none }
def typesAllRow : OpenClaim := { program := "ytdbeeikjngnnnaagreat", sum := "9663958edf9d8173d264494c5834a3b4fa756240f4bfd59abfeb274406f62674", func := "rookery/rookerylaw19.TypesAll", spec := "typesAll", unfollowed := true, recurses := true, apart := false }
def TypesAllSaid : Prop := typesAllRow.holds Tryz.pinned (OpenSpec.ofChange typesAllSpec)

/-- ITS FALSE NEIGHBOUR: 'it returns false'. Refute it at one input. -/
def typesAllWrong : ChangeSpec := { name := "typesAll", fn := fun _ => fun
  | [d1, d2] => { results := [.lit (.bool false)], args := [d1, d2] }
  | _ => none }
def TypesAllWrongFalsely : Prop := typesAllRow.holds Tryz.pinned (OpenSpec.ofChange typesAllWrong)

/- THE SECOND FORM. 'bulk': how many values and letters a reading holds, each counted each time it is reached (what is shared counts as often as it is met; a slice's spare places count too). A statement '..UptoSaid' is the law's where the arguments, and the package variables that the reading takes, are together of bulk at most 1048576: NARROWER than '..Said'. Prove '..Said' where nothing that the law and all that it calls make is longer than what came in: it says more and counts as full. Else prove '..UptoSaid'. A law counts once. -/
mutual
def uptoBulk {H : Type} : DataW H → Nat
  | .lit (.string bytes) => bytes.length + 1
  | .lit _ => 1
  | .nil => 1
  | .ptr d => uptoBulk d + 1
  | .slice elems spare => uptoBulkAll elems + uptoBulkAll spare + 1
  | .agg parts => uptoBulkAll parts + 1
  | .iface _ d => uptoBulk d + 1
  | .map entries => uptoBulkEntries entries + 1
  | .held _ => 1
def uptoBulkAll {H : Type} : List (DataW H) → Nat
  | [] => 0
  | d :: r => uptoBulk d + uptoBulkAll r
def uptoBulkEntries {H : Type} : List (Lit × DataW H) → Nat
  | [] => 0
  | x :: r => uptoBulkEntry x + uptoBulkEntries r
def uptoBulkEntry {H : Type} : Lit × DataW H → Nat
  | (.string bytes, d) => bytes.length + uptoBulk d + 1
  | (_, d) => uptoBulk d + 1
 end
def uptoSmall : (H : Type) → List (DataW H) → Bool := fun _ ds => decide (uptoBulkAll ds ≤ 1048576)
def OpenSpec.upto (s : _root_.Go.ChangeSpec) : _root_.Go.OpenSpec := { _root_.Go.OpenSpec.ofChange s with cond := some uptoSmall }

/-- 'rookerylaw19.TypesDone', WHERE WHAT IT READS IS OF BULK AT MOST 1048576: true; the input reads as it did. -/
def typesDoneUptoRow : OpenClaim := { program := "ytdbeeikjngnnnaagreat", sum := "9663958edf9d8173d264494c5834a3b4fa756240f4bfd59abfeb274406f62674", func := "rookery/rookerylaw19.TypesDone", spec := "typesDone", unfollowed := true, recurses := true, apart := false, narrowed := true }
def TypesDoneUptoSaid : Prop := typesDoneUptoRow.holds Tryz.pinned (OpenSpec.upto typesDoneSpec)

/-- 'rookerylaw19.TypesMerges', WHERE WHAT IT READS IS OF BULK AT MOST 1048576: true; the input reads as it did. -/
def typesMergesUptoRow : OpenClaim := { program := "ytdbeeikjngnnnaagreat", sum := "9663958edf9d8173d264494c5834a3b4fa756240f4bfd59abfeb274406f62674", func := "rookery/rookerylaw19.TypesMerges", spec := "typesMerges", unfollowed := true, recurses := true, apart := false, narrowed := true }
def TypesMergesUptoSaid : Prop := typesMergesUptoRow.holds Tryz.pinned (OpenSpec.upto typesMergesSpec)

/-- 'rookerylaw19.TypesReads', WHERE WHAT IT READS IS OF BULK AT MOST 1048576: true; the input reads as it did. -/
def typesReadsUptoRow : OpenClaim := { program := "ytdbeeikjngnnnaagreat", sum := "9663958edf9d8173d264494c5834a3b4fa756240f4bfd59abfeb274406f62674", func := "rookery/rookerylaw19.TypesReads", spec := "typesReads", unfollowed := true, recurses := true, apart := false, narrowed := true }
def TypesReadsUptoSaid : Prop := typesReadsUptoRow.holds Tryz.pinned (OpenSpec.upto typesReadsSpec)

/-- 'rookerylaw19.TypesResolves', WHERE WHAT IT READS IS OF BULK AT MOST 1048576: true; the input reads as it did. -/
def typesResolvesUptoRow : OpenClaim := { program := "ytdbeeikjngnnnaagreat", sum := "9663958edf9d8173d264494c5834a3b4fa756240f4bfd59abfeb274406f62674", func := "rookery/rookerylaw19.TypesResolves", spec := "typesResolves", unfollowed := true, recurses := true, apart := false, narrowed := true }
def TypesResolvesUptoSaid : Prop := typesResolvesUptoRow.holds Tryz.pinned (OpenSpec.upto typesResolvesSpec)

/-- 'rookerylaw19.TypesAll', WHERE WHAT IT READS IS OF BULK AT MOST 1048576: true; the input reads as it did. -/
def typesAllUptoRow : OpenClaim := { program := "ytdbeeikjngnnnaagreat", sum := "9663958edf9d8173d264494c5834a3b4fa756240f4bfd59abfeb274406f62674", func := "rookery/rookerylaw19.TypesAll", spec := "typesAll", unfollowed := true, recurses := true, apart := false, narrowed := true }
def TypesAllUptoSaid : Prop := typesAllUptoRow.holds Tryz.pinned (OpenSpec.upto typesAllSpec)

end Rows
end Go.Proofs.YtdbeeikjngnnnaaGreat
