/-
  No cell of these rows narrows 'for every input' (looked for: loops, veiled, ifaces, maps, wideKeys, modest, calm, conditions, laid).
  DERIVED. THE GIVEN ROWS OF THIS SEAT. 4 by the template 'for every input the law returns true; each argument reads behind the call as it read before'; 0 by the template 'total and deterministic' (their statements: YtdbeeikjngnnnaaTotals.lean).
  GIVEN WITH THE SEED: the statements are not yours to turn. If you find one false, say at which input.
  Laid BY PROGRAM, IN A SANDBOX (cutbox-rows.mjs): the forced cells as the released guide's own fill.sh prints them over the translation c48dfa810566e23e… (all of the seat's roots in one cut). By AI agents, Wed Nov 11 2026. No macro, syntax, notation, axiom, sorry.
-/
import Derived.Test.YtdbeeikjngnnnaaChecked
import GoSem.Claim
import GoSem.ClaimJoined
import GoSem.ClaimMapViews
import Derived.JoinedTies
import Derived.KernelRfl
namespace Go.Proofs.Ytdbeeikjngnnnaa
/- THE CELL 'sum', in the pinned program and in every row, IS THE sha256 OF THE DUMP (.gsa) THAT YtdbeeikjngnnnaaProg.lean LOADS. Nothing in Lean hashes anything: it is a label: what it is worth is what the hold of that sum in a sandbox is worth. -/
noncomputable def Try.pinned : Pinned := { name := "ytdbeeikjngnnnaa", sum := "c48dfa810566e23e1a6f2943684060a8a867d10dfde995168546126cf9d63971", checked := Try.checked }
namespace Rows
def none {H : Type} : Left H := { results := [], args := [] }

/-- 'rookerylaw19.TypesBack': WHATEVER THE INPUT: true; the input reads as it did. -/
def typesBackSpec : ChangeSpec := { name := "typesBack", fn := fun _ => fun
  | [d1, d2] => { results := [.lit (.bool true)], args := [d1, d2] }
  | _ => none }
def typesBackRow : OpenClaim := { program := "ytdbeeikjngnnnaa", sum := "c48dfa810566e23e1a6f2943684060a8a867d10dfde995168546126cf9d63971", func := "rookery/rookerylaw19.TypesBack", spec := "typesBack", unfollowed := true, recurses := true, apart := false }
def TypesBackSaid : Prop := typesBackRow.holds Try.pinned (OpenSpec.ofChange typesBackSpec)

/-- ITS FALSE NEIGHBOUR: 'it returns false'. Refute it at one input. -/
def typesBackWrong : ChangeSpec := { name := "typesBack", fn := fun _ => fun
  | [d1, d2] => { results := [.lit (.bool false)], args := [d1, d2] }
  | _ => none }
def TypesBackWrongFalsely : Prop := typesBackRow.holds Try.pinned (OpenSpec.ofChange typesBackWrong)

/-- 'rookerylaw19.TypesStrange': WHATEVER THE INPUT: true; the input reads as it did. -/
def typesStrangeSpec : ChangeSpec := { name := "typesStrange", fn := fun _ => fun
  | [d1, d2, d3] => { results := [.lit (.bool true)], args := [d1, d2, d3] }
  | _ => none }
def typesStrangeRow : OpenClaim := { program := "ytdbeeikjngnnnaa", sum := "c48dfa810566e23e1a6f2943684060a8a867d10dfde995168546126cf9d63971", func := "rookery/rookerylaw19.TypesStrange", spec := "typesStrange", unfollowed := true, recurses := true, apart := false }
def TypesStrangeSaid : Prop := typesStrangeRow.holds Try.pinned (OpenSpec.ofChange typesStrangeSpec)

/-- ITS FALSE NEIGHBOUR: 'it returns false'. Refute it at one input. -/
def typesStrangeWrong : ChangeSpec := { name := "typesStrange", fn := fun _ => fun
  | [d1, d2, d3] => { results := [.lit (.bool false)], args := [d1, d2, d3] }
  | _ => none }
def TypesStrangeWrongFalsely : Prop := typesStrangeRow.holds Try.pinned (OpenSpec.ofChange typesStrangeWrong)

/-- 'rookerylaw19.TypesLattice': WHATEVER THE INPUT: true; the input reads as it did. -/
def typesLatticeSpec : ChangeSpec := { name := "typesLattice", fn := fun _ => fun
  | [d1, d2, d3, d4] => { results := [.lit (.bool true)], args := [d1, d2, d3, d4] }
  | _ => none }
def typesLatticeRow : OpenClaim := { program := "ytdbeeikjngnnnaa", sum := "c48dfa810566e23e1a6f2943684060a8a867d10dfde995168546126cf9d63971", func := "rookery/rookerylaw19.TypesLattice", spec := "typesLattice", unfollowed := true, recurses := true, apart := false }
def TypesLatticeSaid : Prop := typesLatticeRow.holds Try.pinned (OpenSpec.ofChange typesLatticeSpec)

/-- ITS FALSE NEIGHBOUR: 'it returns false'. Refute it at one input. -/
def typesLatticeWrong : ChangeSpec := { name := "typesLattice", fn := fun _ => fun
  | [d1, d2, d3, d4] => { results := [.lit (.bool false)], args := [d1, d2, d3, d4] }
  | _ => none }
def TypesLatticeWrongFalsely : Prop := typesLatticeRow.holds Try.pinned (OpenSpec.ofChange typesLatticeWrong)

/-- 'rookerylaw19.TypesSeen': WHATEVER THE INPUT: true; the input reads as it did. -/
def typesSeenSpec : ChangeSpec := { name := "typesSeen", fn := fun _ => fun
  | [d1, d2] => { results := [.lit (.bool true)], args := [d1, d2] }
  | _ => none }
def typesSeenRow : OpenClaim := { program := "ytdbeeikjngnnnaa", sum := "c48dfa810566e23e1a6f2943684060a8a867d10dfde995168546126cf9d63971", func := "rookery/rookerylaw19.TypesSeen", spec := "typesSeen", unfollowed := true, recurses := true, apart := false }
def TypesSeenSaid : Prop := typesSeenRow.holds Try.pinned (OpenSpec.ofChange typesSeenSpec)

/-- ITS FALSE NEIGHBOUR: 'it returns false'. Refute it at one input. -/
def typesSeenWrong : ChangeSpec := { name := "typesSeen", fn := fun _ => fun
  | [d1, d2] => { results := [.lit (.bool false)], args := [d1, d2] }
  | _ => none }
def TypesSeenWrongFalsely : Prop := typesSeenRow.holds Try.pinned (OpenSpec.ofChange typesSeenWrong)

/- THE SECOND FORM. 'bulk': how many values and letters a reading holds, each counted each time it is reached (what is shared counts as often as it is met; a slice's spare places count too). A statement '..UptoSaid' is the law's where the arguments, and the package variables that the reading takes, are together of bulk at most 1048576: NARROWER than '..Said'. Prove '..Said' where nothing that the law and all that it calls make is longer than what came in: it says more and counts as full. Else prove '..UptoSaid'. A law counts once. -/
mutual
def uptoBulk {H : Type} : DataW H → Nat
  | .lit (.string bytes) => bytes.length + 1
  | .lit _ => 1
  | .nil => 1
  | .ptr d => uptoBulk d + 1
  | .slice elems spare => uptoBulkAll elems + uptoBulkAll spare + 1
  | .agg parts => uptoBulkAll parts + 1
  | .iface _ d => uptoBulk d + 1
  | .map entries => uptoBulkEntries entries + 1
  | .held _ => 1
def uptoBulkAll {H : Type} : List (DataW H) → Nat
  | [] => 0
  | d :: r => uptoBulk d + uptoBulkAll r
def uptoBulkEntries {H : Type} : List (Lit × DataW H) → Nat
  | [] => 0
  | x :: r => uptoBulkEntry x + uptoBulkEntries r
def uptoBulkEntry {H : Type} : Lit × DataW H → Nat
  | (.string bytes, d) => bytes.length + uptoBulk d + 1
  | (_, d) => uptoBulk d + 1
 end
def uptoSmall : (H : Type) → List (DataW H) → Bool := fun _ ds => decide (uptoBulkAll ds ≤ 1048576)
def OpenSpec.upto (s : _root_.Go.ChangeSpec) : _root_.Go.OpenSpec := { _root_.Go.OpenSpec.ofChange s with cond := some uptoSmall }

/-- 'rookerylaw19.TypesBack', WHERE WHAT IT READS IS OF BULK AT MOST 1048576: true; the input reads as it did. -/
def typesBackUptoRow : OpenClaim := { program := "ytdbeeikjngnnnaa", sum := "c48dfa810566e23e1a6f2943684060a8a867d10dfde995168546126cf9d63971", func := "rookery/rookerylaw19.TypesBack", spec := "typesBack", unfollowed := true, recurses := true, apart := false, narrowed := true }
def TypesBackUptoSaid : Prop := typesBackUptoRow.holds Try.pinned (OpenSpec.upto typesBackSpec)

/-- 'rookerylaw19.TypesStrange', WHERE WHAT IT READS IS OF BULK AT MOST 1048576: true; the input reads as it did. -/
def typesStrangeUptoRow : OpenClaim := { program := "ytdbeeikjngnnnaa", sum := "c48dfa810566e23e1a6f2943684060a8a867d10dfde995168546126cf9d63971", func := "rookery/rookerylaw19.TypesStrange", spec := "typesStrange", unfollowed := true, recurses := true, apart := false, narrowed := true }
def TypesStrangeUptoSaid : Prop := typesStrangeUptoRow.holds Try.pinned (OpenSpec.upto typesStrangeSpec)

/-- 'rookerylaw19.TypesLattice', WHERE WHAT IT READS IS OF BULK AT MOST 1048576: true; the input reads as it did. -/
def typesLatticeUptoRow : OpenClaim := { program := "ytdbeeikjngnnnaa", sum := "c48dfa810566e23e1a6f2943684060a8a867d10dfde995168546126cf9d63971", func := "rookery/rookerylaw19.TypesLattice", spec := "typesLattice", unfollowed := true, recurses := true, apart := false, narrowed := true }
def TypesLatticeUptoSaid : Prop := typesLatticeUptoRow.holds Try.pinned (OpenSpec.upto typesLatticeSpec)

/-- 'rookerylaw19.TypesSeen', WHERE WHAT IT READS IS OF BULK AT MOST 1048576: true; the input reads as it did. -/
def typesSeenUptoRow : OpenClaim := { program := "ytdbeeikjngnnnaa", sum := "c48dfa810566e23e1a6f2943684060a8a867d10dfde995168546126cf9d63971", func := "rookery/rookerylaw19.TypesSeen", spec := "typesSeen", unfollowed := true, recurses := true, apart := false, narrowed := true }
def TypesSeenUptoSaid : Prop := typesSeenUptoRow.holds Try.pinned (OpenSpec.upto typesSeenSpec)

end Rows
end Go.Proofs.Ytdbeeikjngnnnaa
