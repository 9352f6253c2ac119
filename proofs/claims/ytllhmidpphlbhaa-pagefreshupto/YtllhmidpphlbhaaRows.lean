/-
  No cell of these rows narrows 'for every input' (looked for: loops, veiled, ifaces, maps, wideKeys, modest, calm, conditions, laid).
  DERIVED. THE GIVEN ROWS OF THIS SEAT. 10 by the template 'for every input the law returns true; each argument reads behind the call as it read before'; 0 by the template 'total and deterministic' (their statements: YtllhmidpphlbhaaTotals.lean).
  GIVEN WITH THE SEED: the statements are not yours to turn. If you find one false, say at which input.
  Laid BY PROGRAM, IN A SANDBOX (cutbox-rows.mjs): the forced cells as the released guide's own fill.sh prints them over the translation 27ba754e4569d564… (all of the seat's roots in one cut). By AI agents, Wed Nov 11 2026. No macro, syntax, notation, axiom, sorry.
-/
import Derived.Test.YtllhmidpphlbhaaChecked
import GoSem.Claim
import GoSem.ClaimJoined
import GoSem.ClaimMapViews
import Derived.JoinedTies
import Derived.KernelRfl
namespace Go.Proofs.Ytllhmidpphlbhaa
/- THE CELL 'sum', in the pinned program and in every row, IS THE sha256 OF THE DUMP (.gsa) THAT YtllhmidpphlbhaaProg.lean LOADS. Nothing in Lean hashes anything: it is a label: what it is worth is what the hold of that sum in a sandbox is worth. -/
noncomputable def Try.pinned : Pinned := { name := "ytllhmidpphlbhaa", sum := "27ba754e4569d56411cebce8537c7e5a7c73687fe527f22e5ce97685a7e49496", checked := Try.checked }
namespace Rows
def none {H : Type} : Left H := { results := [], args := [] }

/-- 'rookerylaw7.PageBuild': WHATEVER THE INPUT: true; the input reads as it did. -/
def pageBuildSpec : ChangeSpec := { name := "pageBuild", fn := fun _ => fun
  | [d] => { results := [.lit (.bool true)], args := [d] }
  | _ => none }
def pageBuildRow : OpenClaim := { program := "ytllhmidpphlbhaa", sum := "27ba754e4569d56411cebce8537c7e5a7c73687fe527f22e5ce97685a7e49496", func := "rookery/rookerylaw7.PageBuild", spec := "pageBuild", apart := false }
def PageBuildSaid : Prop := pageBuildRow.holds Try.pinned (OpenSpec.ofChange pageBuildSpec)

/-- ITS FALSE NEIGHBOUR: 'it returns false'. Refute it at one input. -/
def pageBuildWrong : ChangeSpec := { name := "pageBuild", fn := fun _ => fun
  | [d] => { results := [.lit (.bool false)], args := [d] }
  | _ => none }
def PageBuildWrongFalsely : Prop := pageBuildRow.holds Try.pinned (OpenSpec.ofChange pageBuildWrong)

/-- 'rookerylaw7.PageFirst': WHATEVER THE INPUT: true; the input reads as it did. -/
def pageFirstSpec : ChangeSpec := { name := "pageFirst", fn := fun _ => fun
  | [d1, d2, d3, d4, d5] => { results := [.lit (.bool true)], args := [d1, d2, d3, d4, d5] }
  | _ => none }
def pageFirstRow : OpenClaim := { program := "ytllhmidpphlbhaa", sum := "27ba754e4569d56411cebce8537c7e5a7c73687fe527f22e5ce97685a7e49496", func := "rookery/rookerylaw7.PageFirst", spec := "pageFirst", apart := false }
def PageFirstSaid : Prop := pageFirstRow.holds Try.pinned (OpenSpec.ofChange pageFirstSpec)

/-- ITS FALSE NEIGHBOUR: 'it returns false'. Refute it at one input. -/
def pageFirstWrong : ChangeSpec := { name := "pageFirst", fn := fun _ => fun
  | [d1, d2, d3, d4, d5] => { results := [.lit (.bool false)], args := [d1, d2, d3, d4, d5] }
  | _ => none }
def PageFirstWrongFalsely : Prop := pageFirstRow.holds Try.pinned (OpenSpec.ofChange pageFirstWrong)

/-- 'rookerylaw7.PageOwn': WHATEVER THE INPUT: true; the input reads as it did. -/
def pageOwnSpec : ChangeSpec := { name := "pageOwn", fn := fun _ => fun
  | [d1, d2, d3, d4] => { results := [.lit (.bool true)], args := [d1, d2, d3, d4] }
  | _ => none }
def pageOwnRow : OpenClaim := { program := "ytllhmidpphlbhaa", sum := "27ba754e4569d56411cebce8537c7e5a7c73687fe527f22e5ce97685a7e49496", func := "rookery/rookerylaw7.PageOwn", spec := "pageOwn", apart := false }
def PageOwnSaid : Prop := pageOwnRow.holds Try.pinned (OpenSpec.ofChange pageOwnSpec)

/-- ITS FALSE NEIGHBOUR: 'it returns false'. Refute it at one input. -/
def pageOwnWrong : ChangeSpec := { name := "pageOwn", fn := fun _ => fun
  | [d1, d2, d3, d4] => { results := [.lit (.bool false)], args := [d1, d2, d3, d4] }
  | _ => none }
def PageOwnWrongFalsely : Prop := pageOwnRow.holds Try.pinned (OpenSpec.ofChange pageOwnWrong)

/-- 'rookerylaw7.PageOneForm': WHATEVER THE INPUT: true; the input reads as it did. -/
def pageOneFormSpec : ChangeSpec := { name := "pageOneForm", fn := fun _ => fun
  | [d] => { results := [.lit (.bool true)], args := [d] }
  | _ => none }
def pageOneFormRow : OpenClaim := { program := "ytllhmidpphlbhaa", sum := "27ba754e4569d56411cebce8537c7e5a7c73687fe527f22e5ce97685a7e49496", func := "rookery/rookerylaw7.PageOneForm", spec := "pageOneForm", apart := false }
def PageOneFormSaid : Prop := pageOneFormRow.holds Try.pinned (OpenSpec.ofChange pageOneFormSpec)

/-- ITS FALSE NEIGHBOUR: 'it returns false'. Refute it at one input. -/
def pageOneFormWrong : ChangeSpec := { name := "pageOneForm", fn := fun _ => fun
  | [d] => { results := [.lit (.bool false)], args := [d] }
  | _ => none }
def PageOneFormWrongFalsely : Prop := pageOneFormRow.holds Try.pinned (OpenSpec.ofChange pageOneFormWrong)

/-- 'rookerylaw7.PageCheck': WHATEVER THE INPUT: true; the input reads as it did. -/
def pageCheckSpec : ChangeSpec := { name := "pageCheck", fn := fun _ => fun
  | [d] => { results := [.lit (.bool true)], args := [d] }
  | _ => none }
def pageCheckRow : OpenClaim := { program := "ytllhmidpphlbhaa", sum := "27ba754e4569d56411cebce8537c7e5a7c73687fe527f22e5ce97685a7e49496", func := "rookery/rookerylaw7.PageCheck", spec := "pageCheck", apart := false }
def PageCheckSaid : Prop := pageCheckRow.holds Try.pinned (OpenSpec.ofChange pageCheckSpec)

/-- ITS FALSE NEIGHBOUR: 'it returns false'. Refute it at one input. -/
def pageCheckWrong : ChangeSpec := { name := "pageCheck", fn := fun _ => fun
  | [d] => { results := [.lit (.bool false)], args := [d] }
  | _ => none }
def PageCheckWrongFalsely : Prop := pageCheckRow.holds Try.pinned (OpenSpec.ofChange pageCheckWrong)

/-- 'rookerylaw7.PageSpoilt': WHATEVER THE INPUT: true; the input reads as it did. -/
def pageSpoiltSpec : ChangeSpec := { name := "pageSpoilt", fn := fun _ => fun
  | [d1, d2] => { results := [.lit (.bool true)], args := [d1, d2] }
  | _ => none }
def pageSpoiltRow : OpenClaim := { program := "ytllhmidpphlbhaa", sum := "27ba754e4569d56411cebce8537c7e5a7c73687fe527f22e5ce97685a7e49496", func := "rookery/rookerylaw7.PageSpoilt", spec := "pageSpoilt", apart := false }
def PageSpoiltSaid : Prop := pageSpoiltRow.holds Try.pinned (OpenSpec.ofChange pageSpoiltSpec)

/-- ITS FALSE NEIGHBOUR: 'it returns false'. Refute it at one input. -/
def pageSpoiltWrong : ChangeSpec := { name := "pageSpoilt", fn := fun _ => fun
  | [d1, d2] => { results := [.lit (.bool false)], args := [d1, d2] }
  | _ => none }
def PageSpoiltWrongFalsely : Prop := pageSpoiltRow.holds Try.pinned (OpenSpec.ofChange pageSpoiltWrong)

/-- 'rookerylaw7.PageBack': WHATEVER THE INPUT: true; the input reads as it did. -/
def pageBackSpec : ChangeSpec := { name := "pageBack", fn := fun _ => fun
  | [d] => { results := [.lit (.bool true)], args := [d] }
  | _ => none }
def pageBackRow : OpenClaim := { program := "ytllhmidpphlbhaa", sum := "27ba754e4569d56411cebce8537c7e5a7c73687fe527f22e5ce97685a7e49496", func := "rookery/rookerylaw7.PageBack", spec := "pageBack", apart := false }
def PageBackSaid : Prop := pageBackRow.holds Try.pinned (OpenSpec.ofChange pageBackSpec)

/-- ITS FALSE NEIGHBOUR: 'it returns false'. Refute it at one input. -/
def pageBackWrong : ChangeSpec := { name := "pageBack", fn := fun _ => fun
  | [d] => { results := [.lit (.bool false)], args := [d] }
  | _ => none }
def PageBackWrongFalsely : Prop := pageBackRow.holds Try.pinned (OpenSpec.ofChange pageBackWrong)

/-- 'rookerylaw7.PageFresh': WHATEVER THE INPUT: true; the input reads as it did. -/
def pageFreshSpec : ChangeSpec := { name := "pageFresh", fn := fun _ => fun
  | [d] => { results := [.lit (.bool true)], args := [d] }
  | _ => none }
def pageFreshRow : OpenClaim := { program := "ytllhmidpphlbhaa", sum := "27ba754e4569d56411cebce8537c7e5a7c73687fe527f22e5ce97685a7e49496", func := "rookery/rookerylaw7.PageFresh", spec := "pageFresh", apart := false }
def PageFreshSaid : Prop := pageFreshRow.holds Try.pinned (OpenSpec.ofChange pageFreshSpec)

/-- ITS FALSE NEIGHBOUR: 'it returns false'. Refute it at one input. -/
def pageFreshWrong : ChangeSpec := { name := "pageFresh", fn := fun _ => fun
  | [d] => { results := [.lit (.bool false)], args := [d] }
  | _ => none }
def PageFreshWrongFalsely : Prop := pageFreshRow.holds Try.pinned (OpenSpec.ofChange pageFreshWrong)

/-- 'rookerylaw7.PageView': WHATEVER THE INPUT: true; the input reads as it did. -/
def pageViewSpec : ChangeSpec := { name := "pageView", fn := fun _ => fun
  | [d] => { results := [.lit (.bool true)], args := [d] }
  | _ => none }
def pageViewRow : OpenClaim := { program := "ytllhmidpphlbhaa", sum := "27ba754e4569d56411cebce8537c7e5a7c73687fe527f22e5ce97685a7e49496", func := "rookery/rookerylaw7.PageView", spec := "pageView", apart := false }
def PageViewSaid : Prop := pageViewRow.holds Try.pinned (OpenSpec.ofChange pageViewSpec)

/-- ITS FALSE NEIGHBOUR: 'it returns false'. Refute it at one input. -/
def pageViewWrong : ChangeSpec := { name := "pageView", fn := fun _ => fun
  | [d] => { results := [.lit (.bool false)], args := [d] }
  | _ => none }
def PageViewWrongFalsely : Prop := pageViewRow.holds Try.pinned (OpenSpec.ofChange pageViewWrong)

/-- 'rookerylaw7.PageAll': WHATEVER THE INPUT: true; the input reads as it did. -/
def pageAllSpec : ChangeSpec := { name := "pageAll", fn := fun _ => fun
  | [d] => { results := [.lit (.bool true)], args := [d] }
  | _ => none }
def pageAllRow : OpenClaim := { program := "ytllhmidpphlbhaa", sum := "27ba754e4569d56411cebce8537c7e5a7c73687fe527f22e5ce97685a7e49496", func := "rookery/rookerylaw7.PageAll", spec := "pageAll", apart := false }
def PageAllSaid : Prop := pageAllRow.holds Try.pinned (OpenSpec.ofChange pageAllSpec)

/-- ITS FALSE NEIGHBOUR: 'it returns false'. Refute it at one input. -/
def pageAllWrong : ChangeSpec := { name := "pageAll", fn := fun _ => fun
  | [d] => { results := [.lit (.bool false)], args := [d] }
  | _ => none }
def PageAllWrongFalsely : Prop := pageAllRow.holds Try.pinned (OpenSpec.ofChange pageAllWrong)

/- THE SECOND FORM. 'bulk': how many values and letters a reading holds, each counted each time it is reached (what is shared counts as often as it is met; a slice's spare places count too). A statement '..UptoSaid' is the law's where the arguments, and the package variables that the reading takes, are together of bulk at most 1048576: NARROWER than '..Said'. Prove '..Said' where nothing that the law and all that it calls make is longer than what came in: it says more and counts as full. Else prove '..UptoSaid'. A law counts once. -/
mutual
def uptoBulk {H : Type} : DataW H → Nat
  | .lit (.string bytes) => bytes.length + 1
  | .lit _ => 1
  | .nil => 1
  | .ptr d => uptoBulk d + 1
  | .slice elems spare => uptoBulkAll elems + uptoBulkAll spare + 1
  | .agg parts => uptoBulkAll parts + 1
  | .iface _ d => uptoBulk d + 1
  | .map entries => uptoBulkEntries entries + 1
  | .held _ => 1
def uptoBulkAll {H : Type} : List (DataW H) → Nat
  | [] => 0
  | d :: r => uptoBulk d + uptoBulkAll r
def uptoBulkEntries {H : Type} : List (Lit × DataW H) → Nat
  | [] => 0
  | x :: r => uptoBulkEntry x + uptoBulkEntries r
def uptoBulkEntry {H : Type} : Lit × DataW H → Nat
  | (.string bytes, d) => bytes.length + uptoBulk d + 1
  | (_, d) => uptoBulk d + 1
 end
def uptoSmall : (H : Type) → List (DataW H) → Bool := fun _ ds => decide (uptoBulkAll ds ≤ 1048576)
def OpenSpec.upto (s : _root_.Go.ChangeSpec) : _root_.Go.OpenSpec := { _root_.Go.OpenSpec.ofChange s with cond := some uptoSmall }

/-- 'rookerylaw7.PageBuild', WHERE WHAT IT READS IS OF BULK AT MOST 1048576: true; the input reads as it did. -/
def pageBuildUptoRow : OpenClaim := { program := "ytllhmidpphlbhaa", sum := "27ba754e4569d56411cebce8537c7e5a7c73687fe527f22e5ce97685a7e49496", func := "rookery/rookerylaw7.PageBuild", spec := "pageBuild", apart := false, narrowed := true }
def PageBuildUptoSaid : Prop := pageBuildUptoRow.holds Try.pinned (OpenSpec.upto pageBuildSpec)

/-- 'rookerylaw7.PageFirst', WHERE WHAT IT READS IS OF BULK AT MOST 1048576: true; the input reads as it did. -/
def pageFirstUptoRow : OpenClaim := { program := "ytllhmidpphlbhaa", sum := "27ba754e4569d56411cebce8537c7e5a7c73687fe527f22e5ce97685a7e49496", func := "rookery/rookerylaw7.PageFirst", spec := "pageFirst", apart := false, narrowed := true }
def PageFirstUptoSaid : Prop := pageFirstUptoRow.holds Try.pinned (OpenSpec.upto pageFirstSpec)

/-- 'rookerylaw7.PageOwn', WHERE WHAT IT READS IS OF BULK AT MOST 1048576: true; the input reads as it did. -/
def pageOwnUptoRow : OpenClaim := { program := "ytllhmidpphlbhaa", sum := "27ba754e4569d56411cebce8537c7e5a7c73687fe527f22e5ce97685a7e49496", func := "rookery/rookerylaw7.PageOwn", spec := "pageOwn", apart := false, narrowed := true }
def PageOwnUptoSaid : Prop := pageOwnUptoRow.holds Try.pinned (OpenSpec.upto pageOwnSpec)

/-- 'rookerylaw7.PageOneForm', WHERE WHAT IT READS IS OF BULK AT MOST 1048576: true; the input reads as it did. -/
def pageOneFormUptoRow : OpenClaim := { program := "ytllhmidpphlbhaa", sum := "27ba754e4569d56411cebce8537c7e5a7c73687fe527f22e5ce97685a7e49496", func := "rookery/rookerylaw7.PageOneForm", spec := "pageOneForm", apart := false, narrowed := true }
def PageOneFormUptoSaid : Prop := pageOneFormUptoRow.holds Try.pinned (OpenSpec.upto pageOneFormSpec)

/-- 'rookerylaw7.PageCheck', WHERE WHAT IT READS IS OF BULK AT MOST 1048576: true; the input reads as it did. -/
def pageCheckUptoRow : OpenClaim := { program := "ytllhmidpphlbhaa", sum := "27ba754e4569d56411cebce8537c7e5a7c73687fe527f22e5ce97685a7e49496", func := "rookery/rookerylaw7.PageCheck", spec := "pageCheck", apart := false, narrowed := true }
def PageCheckUptoSaid : Prop := pageCheckUptoRow.holds Try.pinned (OpenSpec.upto pageCheckSpec)

/-- 'rookerylaw7.PageSpoilt', WHERE WHAT IT READS IS OF BULK AT MOST 1048576: true; the input reads as it did. -/
def pageSpoiltUptoRow : OpenClaim := { program := "ytllhmidpphlbhaa", sum := "27ba754e4569d56411cebce8537c7e5a7c73687fe527f22e5ce97685a7e49496", func := "rookery/rookerylaw7.PageSpoilt", spec := "pageSpoilt", apart := false, narrowed := true }
def PageSpoiltUptoSaid : Prop := pageSpoiltUptoRow.holds Try.pinned (OpenSpec.upto pageSpoiltSpec)

/-- 'rookerylaw7.PageBack', WHERE WHAT IT READS IS OF BULK AT MOST 1048576: true; the input reads as it did. -/
def pageBackUptoRow : OpenClaim := { program := "ytllhmidpphlbhaa", sum := "27ba754e4569d56411cebce8537c7e5a7c73687fe527f22e5ce97685a7e49496", func := "rookery/rookerylaw7.PageBack", spec := "pageBack", apart := false, narrowed := true }
def PageBackUptoSaid : Prop := pageBackUptoRow.holds Try.pinned (OpenSpec.upto pageBackSpec)

/-- 'rookerylaw7.PageFresh', WHERE WHAT IT READS IS OF BULK AT MOST 1048576: true; the input reads as it did. -/
def pageFreshUptoRow : OpenClaim := { program := "ytllhmidpphlbhaa", sum := "27ba754e4569d56411cebce8537c7e5a7c73687fe527f22e5ce97685a7e49496", func := "rookery/rookerylaw7.PageFresh", spec := "pageFresh", apart := false, narrowed := true }
def PageFreshUptoSaid : Prop := pageFreshUptoRow.holds Try.pinned (OpenSpec.upto pageFreshSpec)

/-- 'rookerylaw7.PageView', WHERE WHAT IT READS IS OF BULK AT MOST 1048576: true; the input reads as it did. -/
def pageViewUptoRow : OpenClaim := { program := "ytllhmidpphlbhaa", sum := "27ba754e4569d56411cebce8537c7e5a7c73687fe527f22e5ce97685a7e49496", func := "rookery/rookerylaw7.PageView", spec := "pageView", apart := false, narrowed := true }
def PageViewUptoSaid : Prop := pageViewUptoRow.holds Try.pinned (OpenSpec.upto pageViewSpec)

/-- 'rookerylaw7.PageAll', WHERE WHAT IT READS IS OF BULK AT MOST 1048576: true; the input reads as it did. -/
def pageAllUptoRow : OpenClaim := { program := "ytllhmidpphlbhaa", sum := "27ba754e4569d56411cebce8537c7e5a7c73687fe527f22e5ce97685a7e49496", func := "rookery/rookerylaw7.PageAll", spec := "pageAll", apart := false, narrowed := true }
def PageAllUptoSaid : Prop := pageAllUptoRow.holds Try.pinned (OpenSpec.upto pageAllSpec)

end Rows
end Go.Proofs.Ytllhmidpphlbhaa
