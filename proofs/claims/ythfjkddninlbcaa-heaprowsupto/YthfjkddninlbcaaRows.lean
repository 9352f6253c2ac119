/-
  No cell of these rows narrows 'for every input' (looked for: loops, veiled, ifaces, maps, wideKeys, modest, calm, conditions, laid).
  DERIVED. THE GIVEN ROWS OF THIS SEAT. 6 by the template 'for every input the law returns true; each argument reads behind the call as it read before'; 0 by the template 'total and deterministic' (their statements: YthfjkddninlbcaaTotals.lean).
  GIVEN WITH THE SEED: the statements are not yours to turn. If you find one false, say at which input.
  Laid BY PROGRAM, IN A SANDBOX (cutbox-rows.mjs): the forced cells as the released guide's own fill.sh prints them over the translation e54c9fd32b201e0a… (all of the seat's roots in one cut). By AI agents, Wed Nov 11 2026. No macro, syntax, notation, axiom, sorry.
-/
import Derived.Test.YthfjkddninlbcaaChecked
import GoSem.Claim
import GoSem.ClaimJoined
import GoSem.ClaimMapViews
import Derived.JoinedTies
import Derived.KernelRfl
namespace Go.Proofs.Ythfjkddninlbcaa
/- THE CELL 'sum', in the pinned program and in every row, IS THE sha256 OF THE DUMP (.gsa) THAT YthfjkddninlbcaaProg.lean LOADS. Nothing in Lean hashes anything: it is a label: what it is worth is what the hold of that sum in a sandbox is worth. -/
noncomputable def Try.pinned : Pinned := { name := "ythfjkddninlbcaa", sum := "e54c9fd32b201e0a0452a8674a7f1e8ebf0cf842a26ddff45e2b91773d992eb8", checked := Try.checked }
namespace Rows
def none {H : Type} : Left H := { results := [], args := [] }

/-- 'rookerylaw2.HeapSorts': WHATEVER THE INPUT: true; the input reads as it did. -/
def heapSortsSpec : ChangeSpec := { name := "heapSorts", fn := fun _ => fun
  | [d] => { results := [.lit (.bool true)], args := [d] }
  | _ => none }
def heapSortsRow : OpenClaim := { program := "ythfjkddninlbcaa", sum := "e54c9fd32b201e0a0452a8674a7f1e8ebf0cf842a26ddff45e2b91773d992eb8", func := "rookery/rookerylaw2.HeapSorts", spec := "heapSorts", unfollowed := true, recurses := true, apart := false }
def HeapSortsSaid : Prop := heapSortsRow.holds Try.pinned (OpenSpec.ofChange heapSortsSpec)

/-- ITS FALSE NEIGHBOUR: 'it returns false'. Refute it at one input. -/
def heapSortsWrong : ChangeSpec := { name := "heapSorts", fn := fun _ => fun
  | [d] => { results := [.lit (.bool false)], args := [d] }
  | _ => none }
def HeapSortsWrongFalsely : Prop := heapSortsRow.holds Try.pinned (OpenSpec.ofChange heapSortsWrong)

/-- 'rookerylaw2.HeapBad': WHATEVER THE INPUT: true; the input reads as it did. -/
def heapBadSpec : ChangeSpec := { name := "heapBad", fn := fun _ => fun
  | [d1, d2, d3] => { results := [.lit (.bool true)], args := [d1, d2, d3] }
  | _ => none }
def heapBadRow : OpenClaim := { program := "ythfjkddninlbcaa", sum := "e54c9fd32b201e0a0452a8674a7f1e8ebf0cf842a26ddff45e2b91773d992eb8", func := "rookery/rookerylaw2.HeapBad", spec := "heapBad", unfollowed := true, recurses := true, apart := false }
def HeapBadSaid : Prop := heapBadRow.holds Try.pinned (OpenSpec.ofChange heapBadSpec)

/-- ITS FALSE NEIGHBOUR: 'it returns false'. Refute it at one input. -/
def heapBadWrong : ChangeSpec := { name := "heapBad", fn := fun _ => fun
  | [d1, d2, d3] => { results := [.lit (.bool false)], args := [d1, d2, d3] }
  | _ => none }
def HeapBadWrongFalsely : Prop := heapBadRow.holds Try.pinned (OpenSpec.ofChange heapBadWrong)

/-- 'rookerylaw2.HeapGone': WHATEVER THE INPUT: true; the input reads as it did. -/
def heapGoneSpec : ChangeSpec := { name := "heapGone", fn := fun _ => fun
  | [d1, d2] => { results := [.lit (.bool true)], args := [d1, d2] }
  | _ => none }
def heapGoneRow : OpenClaim := { program := "ythfjkddninlbcaa", sum := "e54c9fd32b201e0a0452a8674a7f1e8ebf0cf842a26ddff45e2b91773d992eb8", func := "rookery/rookerylaw2.HeapGone", spec := "heapGone", unfollowed := true, recurses := true, apart := false }
def HeapGoneSaid : Prop := heapGoneRow.holds Try.pinned (OpenSpec.ofChange heapGoneSpec)

/-- ITS FALSE NEIGHBOUR: 'it returns false'. Refute it at one input. -/
def heapGoneWrong : ChangeSpec := { name := "heapGone", fn := fun _ => fun
  | [d1, d2] => { results := [.lit (.bool false)], args := [d1, d2] }
  | _ => none }
def HeapGoneWrongFalsely : Prop := heapGoneRow.holds Try.pinned (OpenSpec.ofChange heapGoneWrong)

/-- 'rookerylaw2.HeapPops': WHATEVER THE INPUT: true; the input reads as it did. -/
def heapPopsSpec : ChangeSpec := { name := "heapPops", fn := fun _ => fun
  | [d] => { results := [.lit (.bool true)], args := [d] }
  | _ => none }
def heapPopsRow : OpenClaim := { program := "ythfjkddninlbcaa", sum := "e54c9fd32b201e0a0452a8674a7f1e8ebf0cf842a26ddff45e2b91773d992eb8", func := "rookery/rookerylaw2.HeapPops", spec := "heapPops", unfollowed := true, recurses := true, apart := false }
def HeapPopsSaid : Prop := heapPopsRow.holds Try.pinned (OpenSpec.ofChange heapPopsSpec)

/-- ITS FALSE NEIGHBOUR: 'it returns false'. Refute it at one input. -/
def heapPopsWrong : ChangeSpec := { name := "heapPops", fn := fun _ => fun
  | [d] => { results := [.lit (.bool false)], args := [d] }
  | _ => none }
def HeapPopsWrongFalsely : Prop := heapPopsRow.holds Try.pinned (OpenSpec.ofChange heapPopsWrong)

/-- 'rookerylaw2.HeapTakes': WHATEVER THE INPUT: true; the input reads as it did. -/
def heapTakesSpec : ChangeSpec := { name := "heapTakes", fn := fun _ => fun
  | [d] => { results := [.lit (.bool true)], args := [d] }
  | _ => none }
def heapTakesRow : OpenClaim := { program := "ythfjkddninlbcaa", sum := "e54c9fd32b201e0a0452a8674a7f1e8ebf0cf842a26ddff45e2b91773d992eb8", func := "rookery/rookerylaw2.HeapTakes", spec := "heapTakes", unfollowed := true, recurses := true, apart := false }
def HeapTakesSaid : Prop := heapTakesRow.holds Try.pinned (OpenSpec.ofChange heapTakesSpec)

/-- ITS FALSE NEIGHBOUR: 'it returns false'. Refute it at one input. -/
def heapTakesWrong : ChangeSpec := { name := "heapTakes", fn := fun _ => fun
  | [d] => { results := [.lit (.bool false)], args := [d] }
  | _ => none }
def HeapTakesWrongFalsely : Prop := heapTakesRow.holds Try.pinned (OpenSpec.ofChange heapTakesWrong)

/-- 'rookerylaw2.HeapRows': WHATEVER THE INPUT: true; the input reads as it did. -/
def heapRowsSpec : ChangeSpec := { name := "heapRows", fn := fun _ => fun
  | [d] => { results := [.lit (.bool true)], args := [d] }
  | _ => none }
def heapRowsRow : OpenClaim := { program := "ythfjkddninlbcaa", sum := "e54c9fd32b201e0a0452a8674a7f1e8ebf0cf842a26ddff45e2b91773d992eb8", func := "rookery/rookerylaw2.HeapRows", spec := "heapRows", unfollowed := true, recurses := true, apart := false }
def HeapRowsSaid : Prop := heapRowsRow.holds Try.pinned (OpenSpec.ofChange heapRowsSpec)

/-- ITS FALSE NEIGHBOUR: 'it returns false'. Refute it at one input. -/
def heapRowsWrong : ChangeSpec := { name := "heapRows", fn := fun _ => fun
  | [d] => { results := [.lit (.bool false)], args := [d] }
  | _ => none }
def HeapRowsWrongFalsely : Prop := heapRowsRow.holds Try.pinned (OpenSpec.ofChange heapRowsWrong)

/- THE SECOND FORM. 'bulk': how many values and letters a reading holds, each counted each time it is reached (what is shared counts as often as it is met; a slice's spare places count too). A statement '..UptoSaid' is the law's where the arguments, and the package variables that the reading takes, are together of bulk at most 1048576: NARROWER than '..Said'. Prove '..Said' where nothing that the law and all that it calls make is longer than what came in: it says more and counts as full. Else prove '..UptoSaid'. A law counts once. -/
mutual
def uptoBulk {H : Type} : DataW H → Nat
  | .lit (.string bytes) => bytes.length + 1
  | .lit _ => 1
  | .nil => 1
  | .ptr d => uptoBulk d + 1
  | .slice elems spare => uptoBulkAll elems + uptoBulkAll spare + 1
  | .agg parts => uptoBulkAll parts + 1
  | .iface _ d => uptoBulk d + 1
  | .map entries => uptoBulkEntries entries + 1
  | .held _ => 1
def uptoBulkAll {H : Type} : List (DataW H) → Nat
  | [] => 0
  | d :: r => uptoBulk d + uptoBulkAll r
def uptoBulkEntries {H : Type} : List (Lit × DataW H) → Nat
  | [] => 0
  | x :: r => uptoBulkEntry x + uptoBulkEntries r
def uptoBulkEntry {H : Type} : Lit × DataW H → Nat
  | (.string bytes, d) => bytes.length + uptoBulk d + 1
  | (_, d) => uptoBulk d + 1
 end
def uptoSmall : (H : Type) → List (DataW H) → Bool := fun _ ds => decide (uptoBulkAll ds ≤ 1048576)
def OpenSpec.upto (s : _root_.Go.ChangeSpec) : _root_.Go.OpenSpec := { _root_.Go.OpenSpec.ofChange s with cond := some uptoSmall }

/-- 'rookerylaw2.HeapSorts', WHERE WHAT IT READS IS OF BULK AT MOST 1048576: true; the input reads as it did. -/
def heapSortsUptoRow : OpenClaim := { program := "ythfjkddninlbcaa", sum := "e54c9fd32b201e0a0452a8674a7f1e8ebf0cf842a26ddff45e2b91773d992eb8", func := "rookery/rookerylaw2.HeapSorts", spec := "heapSorts", unfollowed := true, recurses := true, apart := false, narrowed := true }
def HeapSortsUptoSaid : Prop := heapSortsUptoRow.holds Try.pinned (OpenSpec.upto heapSortsSpec)

/-- 'rookerylaw2.HeapBad', WHERE WHAT IT READS IS OF BULK AT MOST 1048576: true; the input reads as it did. -/
def heapBadUptoRow : OpenClaim := { program := "ythfjkddninlbcaa", sum := "e54c9fd32b201e0a0452a8674a7f1e8ebf0cf842a26ddff45e2b91773d992eb8", func := "rookery/rookerylaw2.HeapBad", spec := "heapBad", unfollowed := true, recurses := true, apart := false, narrowed := true }
def HeapBadUptoSaid : Prop := heapBadUptoRow.holds Try.pinned (OpenSpec.upto heapBadSpec)

/-- 'rookerylaw2.HeapGone', WHERE WHAT IT READS IS OF BULK AT MOST 1048576: true; the input reads as it did. -/
def heapGoneUptoRow : OpenClaim := { program := "ythfjkddninlbcaa", sum := "e54c9fd32b201e0a0452a8674a7f1e8ebf0cf842a26ddff45e2b91773d992eb8", func := "rookery/rookerylaw2.HeapGone", spec := "heapGone", unfollowed := true, recurses := true, apart := false, narrowed := true }
def HeapGoneUptoSaid : Prop := heapGoneUptoRow.holds Try.pinned (OpenSpec.upto heapGoneSpec)

/-- 'rookerylaw2.HeapPops', WHERE WHAT IT READS IS OF BULK AT MOST 1048576: true; the input reads as it did. -/
def heapPopsUptoRow : OpenClaim := { program := "ythfjkddninlbcaa", sum := "e54c9fd32b201e0a0452a8674a7f1e8ebf0cf842a26ddff45e2b91773d992eb8", func := "rookery/rookerylaw2.HeapPops", spec := "heapPops", unfollowed := true, recurses := true, apart := false, narrowed := true }
def HeapPopsUptoSaid : Prop := heapPopsUptoRow.holds Try.pinned (OpenSpec.upto heapPopsSpec)

/-- 'rookerylaw2.HeapTakes', WHERE WHAT IT READS IS OF BULK AT MOST 1048576: true; the input reads as it did. -/
def heapTakesUptoRow : OpenClaim := { program := "ythfjkddninlbcaa", sum := "e54c9fd32b201e0a0452a8674a7f1e8ebf0cf842a26ddff45e2b91773d992eb8", func := "rookery/rookerylaw2.HeapTakes", spec := "heapTakes", unfollowed := true, recurses := true, apart := false, narrowed := true }
def HeapTakesUptoSaid : Prop := heapTakesUptoRow.holds Try.pinned (OpenSpec.upto heapTakesSpec)

/-- 'rookerylaw2.HeapRows', WHERE WHAT IT READS IS OF BULK AT MOST 1048576: true; the input reads as it did. -/
def heapRowsUptoRow : OpenClaim := { program := "ythfjkddninlbcaa", sum := "e54c9fd32b201e0a0452a8674a7f1e8ebf0cf842a26ddff45e2b91773d992eb8", func := "rookery/rookerylaw2.HeapRows", spec := "heapRows", unfollowed := true, recurses := true, apart := false, narrowed := true }
def HeapRowsUptoSaid : Prop := heapRowsUptoRow.holds Try.pinned (OpenSpec.upto heapRowsSpec)

end Rows
end Go.Proofs.Ythfjkddninlbcaa
