/-
  No cell of these rows narrows 'for every input' (looked for: loops, veiled, ifaces, maps, wideKeys, modest, calm, conditions, laid).
  DERIVED. THE GIVEN ROWS OF THIS SEAT. 6 by the template 'for every input the law returns true; each argument reads behind the call as it read before'; 0 by the template 'total and deterministic' (their statements: YtpddokbjjhbfgaaGreatTotals.lean).
  GIVEN WITH THE SEED: the statements are not yours to turn. If you find one false, say at which input.
  Laid BY PROGRAM, IN A SANDBOX (cutbox-rows.mjs): the forced cells as the released guide's own fill.sh prints them over the translation f793dbab08488f30… (all of the seat's roots in one cut). By AI agents, Wed Nov 11 2026. No macro, syntax, notation, axiom, sorry.
-/
import Derived.Test.YtpddokbjjhbfgaaGreatChecked
import GoSem.Claim
import GoSem.ClaimJoined
import GoSem.ClaimMapViews
import Derived.JoinedTies
import Derived.KernelRfl
namespace Go.Proofs.YtpddokbjjhbfgaaGreat
/- THE CELL 'sum', in the pinned program and in every row, IS THE sha256 OF THE DUMP (.gsa) THAT YtpddokbjjhbfgaaGreatProg.lean LOADS. Nothing in Lean hashes anything: it is a label: what it is worth is what the hold of that sum in a sandbox is worth. -/
noncomputable def Tryz.pinned : Pinned := { name := "ytpddokbjjhbfgaagreat", sum := "f793dbab08488f30236e4475efb77558ef419656921ec1affd02fbd0160d977f", checked := Tryz.checked }
namespace Rows
def none {H : Type} : Left H := { results := [], args := [] }

/-- 'rookerylaw15.SessionApart': WHATEVER THE INPUT: true; the input reads as it did. -/
def sessionApartSpec : ChangeSpec := { name := "sessionApart", fn := fun _ => fun
  | [d1, d2] => { results := [.lit (.bool true)], args := [d1, d2] }
  | _ => none }
def sessionApartRow : OpenClaim := { program := "ytpddokbjjhbfgaagreat", sum := "f793dbab08488f30236e4475efb77558ef419656921ec1affd02fbd0160d977f", func := "rookery/rookerylaw15.SessionApart", spec := "sessionApart", unfollowed := true, recurses := true, plainKeys := false, apart := false }
def SessionApartSaid : Prop := sessionApartRow.holds Tryz.pinned (OpenSpec.ofChange sessionApartSpec)

/-- ITS FALSE NEIGHBOUR: 'it returns false'. Refute it at one input. -/
def sessionApartWrong : ChangeSpec := { name := "sessionApart", fn := fun _ => fun
  | [d1, d2] => { results := [.lit (.bool false)], args := [d1, d2] }
  | _ => none }
def SessionApartWrongFalsely : Prop := sessionApartRow.holds Tryz.pinned (OpenSpec.ofChange sessionApartWrong)

/-- 'rookerylaw15.SessionTurns': WHATEVER THE INPUT: true; the input reads as it did. -/
def sessionTurnsSpec : ChangeSpec := { name := "sessionTurns", fn := fun _ => fun
  | [d1, d2, d3, d4] => { results := [.lit (.bool true)], args := [d1, d2, d3, d4] }
  | _ => none }
def sessionTurnsRow : OpenClaim := { program := "ytpddokbjjhbfgaagreat", sum := "f793dbab08488f30236e4475efb77558ef419656921ec1affd02fbd0160d977f", func := "rookery/rookerylaw15.SessionTurns", spec := "sessionTurns", unfollowed := true, recurses := true, plainKeys := false, apart := false }
def SessionTurnsSaid : Prop := sessionTurnsRow.holds Tryz.pinned (OpenSpec.ofChange sessionTurnsSpec)

/-- ITS FALSE NEIGHBOUR: 'it returns false'. Refute it at one input. -/
def sessionTurnsWrong : ChangeSpec := { name := "sessionTurns", fn := fun _ => fun
  | [d1, d2, d3, d4] => { results := [.lit (.bool false)], args := [d1, d2, d3, d4] }
  | _ => none }
def SessionTurnsWrongFalsely : Prop := sessionTurnsRow.holds Tryz.pinned (OpenSpec.ofChange sessionTurnsWrong)

/-- 'rookerylaw15.SessionNews': WHATEVER THE INPUT: true; the input reads as it did. -/
def sessionNewsSpec : ChangeSpec := { name := "sessionNews", fn := fun _ => fun
  | [d1, d2] => { results := [.lit (.bool true)], args := [d1, d2] }
  | _ => none }
def sessionNewsRow : OpenClaim := { program := "ytpddokbjjhbfgaagreat", sum := "f793dbab08488f30236e4475efb77558ef419656921ec1affd02fbd0160d977f", func := "rookery/rookerylaw15.SessionNews", spec := "sessionNews", unfollowed := true, recurses := true, plainKeys := false, apart := false }
def SessionNewsSaid : Prop := sessionNewsRow.holds Tryz.pinned (OpenSpec.ofChange sessionNewsSpec)

/-- ITS FALSE NEIGHBOUR: 'it returns false'. Refute it at one input. -/
def sessionNewsWrong : ChangeSpec := { name := "sessionNews", fn := fun _ => fun
  | [d1, d2] => { results := [.lit (.bool false)], args := [d1, d2] }
  | _ => none }
def SessionNewsWrongFalsely : Prop := sessionNewsRow.holds Tryz.pinned (OpenSpec.ofChange sessionNewsWrong)

/-- 'rookerylaw15.SessionNext': WHATEVER THE INPUT: true; the input reads as it did. -/
def sessionNextSpec : ChangeSpec := { name := "sessionNext", fn := fun _ => fun
  | [d1, d2, d3, d4] => { results := [.lit (.bool true)], args := [d1, d2, d3, d4] }
  | _ => none }
def sessionNextRow : OpenClaim := { program := "ytpddokbjjhbfgaagreat", sum := "f793dbab08488f30236e4475efb77558ef419656921ec1affd02fbd0160d977f", func := "rookery/rookerylaw15.SessionNext", spec := "sessionNext", unfollowed := true, recurses := true, plainKeys := false, apart := false }
def SessionNextSaid : Prop := sessionNextRow.holds Tryz.pinned (OpenSpec.ofChange sessionNextSpec)

/-- ITS FALSE NEIGHBOUR: 'it returns false'. Refute it at one input. -/
def sessionNextWrong : ChangeSpec := { name := "sessionNext", fn := fun _ => fun
  | [d1, d2, d3, d4] => { results := [.lit (.bool false)], args := [d1, d2, d3, d4] }
  | _ => none }
def SessionNextWrongFalsely : Prop := sessionNextRow.holds Tryz.pinned (OpenSpec.ofChange sessionNextWrong)

/-- 'rookerylaw15.SessionGot': WHATEVER THE INPUT: true; the input reads as it did. -/
def sessionGotSpec : ChangeSpec := { name := "sessionGot", fn := fun _ => fun
  | [d1, d2, d3, d4] => { results := [.lit (.bool true)], args := [d1, d2, d3, d4] }
  | _ => none }
def sessionGotRow : OpenClaim := { program := "ytpddokbjjhbfgaagreat", sum := "f793dbab08488f30236e4475efb77558ef419656921ec1affd02fbd0160d977f", func := "rookery/rookerylaw15.SessionGot", spec := "sessionGot", unfollowed := true, recurses := true, plainKeys := false, apart := false }
def SessionGotSaid : Prop := sessionGotRow.holds Tryz.pinned (OpenSpec.ofChange sessionGotSpec)

/-- ITS FALSE NEIGHBOUR: 'it returns false'. Refute it at one input. -/
def sessionGotWrong : ChangeSpec := { name := "sessionGot", fn := fun _ => fun
  | [d1, d2, d3, d4] => { results := [.lit (.bool false)], args := [d1, d2, d3, d4] }
  | _ => none }
def SessionGotWrongFalsely : Prop := sessionGotRow.holds Tryz.pinned (OpenSpec.ofChange sessionGotWrong)

/-- 'rookerylaw15.SessionScript': WHATEVER THE INPUT: true; the input reads as it did. -/
def sessionScriptSpec : ChangeSpec := { name := "sessionScript", fn := fun _ => fun
  | [d1, d2, d3, d4] => { results := [.lit (.bool true)], args := [d1, d2, d3, d4] }
  | _ => none }
def sessionScriptRow : OpenClaim := { program := "ytpddokbjjhbfgaagreat", sum := "f793dbab08488f30236e4475efb77558ef419656921ec1affd02fbd0160d977f", func := "rookery/rookerylaw15.SessionScript", spec := "sessionScript", unfollowed := true, recurses := true, plainKeys := false, apart := false }
def SessionScriptSaid : Prop := sessionScriptRow.holds Tryz.pinned (OpenSpec.ofChange sessionScriptSpec)

/-- ITS FALSE NEIGHBOUR: 'it returns false'. Refute it at one input. -/
def sessionScriptWrong : ChangeSpec := { name := "sessionScript", fn := fun _ => fun
  | [d1, d2, d3, d4] => { results := [.lit (.bool false)], args := [d1, d2, d3, d4] }
  | _ => none }
def SessionScriptWrongFalsely : Prop := sessionScriptRow.holds Tryz.pinned (OpenSpec.ofChange sessionScriptWrong)

/- THE SECOND FORM. 'bulk': how many values and letters a reading holds, each counted each time it is reached (what is shared counts as often as it is met; a slice's spare places count too). A statement '..UptoSaid' is the law's where the arguments, and the package variables that the reading takes, are together of bulk at most 1048576: NARROWER than '..Said'. Prove '..Said' where nothing that the law and all that it calls make is longer than what came in: it says more and counts as full. Else prove '..UptoSaid'. A law counts once. -/
mutual
def uptoBulk {H : Type} : DataW H → Nat
  | .lit (.string bytes) => bytes.length + 1
  | .lit _ => 1
  | .nil => 1
  | .ptr d => uptoBulk d + 1
  | .slice elems spare => uptoBulkAll elems + uptoBulkAll spare + 1
  | .agg parts => uptoBulkAll parts + 1
  | .iface _ d => uptoBulk d + 1
  | .map entries => uptoBulkEntries entries + 1
  | .held _ => 1
def uptoBulkAll {H : Type} : List (DataW H) → Nat
  | [] => 0
  | d :: r => uptoBulk d + uptoBulkAll r
def uptoBulkEntries {H : Type} : List (Lit × DataW H) → Nat
  | [] => 0
  | x :: r => uptoBulkEntry x + uptoBulkEntries r
def uptoBulkEntry {H : Type} : Lit × DataW H → Nat
  | (.string bytes, d) => bytes.length + uptoBulk d + 1
  | (_, d) => uptoBulk d + 1
 end
def uptoSmall : (H : Type) → List (DataW H) → Bool := fun _ ds => decide (uptoBulkAll ds ≤ 1048576)
def OpenSpec.upto (s : _root_.Go.ChangeSpec) : _root_.Go.OpenSpec := { _root_.Go.OpenSpec.ofChange s with cond := some uptoSmall }

/-- 'rookerylaw15.SessionApart', WHERE WHAT IT READS IS OF BULK AT MOST 1048576: true; the input reads as it did. -/
def sessionApartUptoRow : OpenClaim := { program := "ytpddokbjjhbfgaagreat", sum := "f793dbab08488f30236e4475efb77558ef419656921ec1affd02fbd0160d977f", func := "rookery/rookerylaw15.SessionApart", spec := "sessionApart", unfollowed := true, recurses := true, plainKeys := false, apart := false, narrowed := true }
def SessionApartUptoSaid : Prop := sessionApartUptoRow.holds Tryz.pinned (OpenSpec.upto sessionApartSpec)

/-- 'rookerylaw15.SessionTurns', WHERE WHAT IT READS IS OF BULK AT MOST 1048576: true; the input reads as it did. -/
def sessionTurnsUptoRow : OpenClaim := { program := "ytpddokbjjhbfgaagreat", sum := "f793dbab08488f30236e4475efb77558ef419656921ec1affd02fbd0160d977f", func := "rookery/rookerylaw15.SessionTurns", spec := "sessionTurns", unfollowed := true, recurses := true, plainKeys := false, apart := false, narrowed := true }
def SessionTurnsUptoSaid : Prop := sessionTurnsUptoRow.holds Tryz.pinned (OpenSpec.upto sessionTurnsSpec)

/-- 'rookerylaw15.SessionNews', WHERE WHAT IT READS IS OF BULK AT MOST 1048576: true; the input reads as it did. -/
def sessionNewsUptoRow : OpenClaim := { program := "ytpddokbjjhbfgaagreat", sum := "f793dbab08488f30236e4475efb77558ef419656921ec1affd02fbd0160d977f", func := "rookery/rookerylaw15.SessionNews", spec := "sessionNews", unfollowed := true, recurses := true, plainKeys := false, apart := false, narrowed := true }
def SessionNewsUptoSaid : Prop := sessionNewsUptoRow.holds Tryz.pinned (OpenSpec.upto sessionNewsSpec)

/-- 'rookerylaw15.SessionNext', WHERE WHAT IT READS IS OF BULK AT MOST 1048576: true; the input reads as it did. -/
def sessionNextUptoRow : OpenClaim := { program := "ytpddokbjjhbfgaagreat", sum := "f793dbab08488f30236e4475efb77558ef419656921ec1affd02fbd0160d977f", func := "rookery/rookerylaw15.SessionNext", spec := "sessionNext", unfollowed := true, recurses := true, plainKeys := false, apart := false, narrowed := true }
def SessionNextUptoSaid : Prop := sessionNextUptoRow.holds Tryz.pinned (OpenSpec.upto sessionNextSpec)

/-- 'rookerylaw15.SessionGot', WHERE WHAT IT READS IS OF BULK AT MOST 1048576: true; the input reads as it did. -/
def sessionGotUptoRow : OpenClaim := { program := "ytpddokbjjhbfgaagreat", sum := "f793dbab08488f30236e4475efb77558ef419656921ec1affd02fbd0160d977f", func := "rookery/rookerylaw15.SessionGot", spec := "sessionGot", unfollowed := true, recurses := true, plainKeys := false, apart := false, narrowed := true }
def SessionGotUptoSaid : Prop := sessionGotUptoRow.holds Tryz.pinned (OpenSpec.upto sessionGotSpec)

/-- 'rookerylaw15.SessionScript', WHERE WHAT IT READS IS OF BULK AT MOST 1048576: true; the input reads as it did. -/
def sessionScriptUptoRow : OpenClaim := { program := "ytpddokbjjhbfgaagreat", sum := "f793dbab08488f30236e4475efb77558ef419656921ec1affd02fbd0160d977f", func := "rookery/rookerylaw15.SessionScript", spec := "sessionScript", unfollowed := true, recurses := true, plainKeys := false, apart := false, narrowed := true }
def SessionScriptUptoSaid : Prop := sessionScriptUptoRow.holds Tryz.pinned (OpenSpec.upto sessionScriptSpec)

end Rows
end Go.Proofs.YtpddokbjjhbfgaaGreat
