/-
  No cell of these rows narrows 'for every input' (looked for: loops, veiled, ifaces, maps, wideKeys, modest, calm, conditions, laid).
  DERIVED. THE GIVEN ROWS OF THIS SEAT. 5 by the template 'for every input the law returns true; each argument reads behind the call as it read before'; 0 by the template 'total and deterministic' (their statements: YtopmhacnopfifaaTotals.lean).
  GIVEN WITH THE SEED: the statements are not yours to turn. If you find one false, say at which input.
  Laid BY PROGRAM, IN A SANDBOX (cutbox-rows.mjs): the forced cells as the released guide's own fill.sh prints them over the translation e57f3d83b204e45a… (all of the seat's roots in one cut). By AI agents, Wed Nov 11 2026. No macro, syntax, notation, axiom, sorry.
-/
import Derived.Test.YtopmhacnopfifaaChecked
import GoSem.Claim
import GoSem.ClaimJoined
import GoSem.ClaimMapViews
import Derived.JoinedTies
import Derived.KernelRfl
namespace Go.Proofs.Ytopmhacnopfifaa
/- THE CELL 'sum', in the pinned program and in every row, IS THE sha256 OF THE DUMP (.gsa) THAT YtopmhacnopfifaaProg.lean LOADS. Nothing in Lean hashes anything: it is a label: what it is worth is what the hold of that sum in a sandbox is worth. -/
noncomputable def Try.pinned : Pinned := { name := "ytopmhacnopfifaa", sum := "e57f3d83b204e45a9e10dbe2b11a37fe79684c12f53abf9ff468320958ae60b7", checked := Try.checked }
namespace Rows
def none {H : Type} : Left H := { results := [], args := [] }

/-- 'rookerylaw2.HeapOwn': WHATEVER THE INPUT: true; the input reads as it did. -/
def heapOwnSpec : ChangeSpec := { name := "heapOwn", fn := fun _ => fun
  | [d] => { results := [.lit (.bool true)], args := [d] }
  | _ => none }
def heapOwnRow : OpenClaim := { program := "ytopmhacnopfifaa", sum := "e57f3d83b204e45a9e10dbe2b11a37fe79684c12f53abf9ff468320958ae60b7", func := "rookery/rookerylaw2.HeapOwn", spec := "heapOwn", unfollowed := true, recurses := true, apart := false }
def HeapOwnSaid : Prop := heapOwnRow.holds Try.pinned (OpenSpec.ofChange heapOwnSpec)

/-- ITS FALSE NEIGHBOUR: 'it returns false'. Refute it at one input. -/
def heapOwnWrong : ChangeSpec := { name := "heapOwn", fn := fun _ => fun
  | [d] => { results := [.lit (.bool false)], args := [d] }
  | _ => none }
def HeapOwnWrongFalsely : Prop := heapOwnRow.holds Try.pinned (OpenSpec.ofChange heapOwnWrong)

/-- 'rookerylaw2.HeapTimers': WHATEVER THE INPUT: true; the input reads as it did. -/
def heapTimersSpec : ChangeSpec := { name := "heapTimers", fn := fun _ => fun
  | [d1, d2] => { results := [.lit (.bool true)], args := [d1, d2] }
  | _ => none }
def heapTimersRow : OpenClaim := { program := "ytopmhacnopfifaa", sum := "e57f3d83b204e45a9e10dbe2b11a37fe79684c12f53abf9ff468320958ae60b7", func := "rookery/rookerylaw2.HeapTimers", spec := "heapTimers", unfollowed := true, recurses := true, apart := false }
def HeapTimersSaid : Prop := heapTimersRow.holds Try.pinned (OpenSpec.ofChange heapTimersSpec)

/-- ITS FALSE NEIGHBOUR: 'it returns false'. Refute it at one input. -/
def heapTimersWrong : ChangeSpec := { name := "heapTimers", fn := fun _ => fun
  | [d1, d2] => { results := [.lit (.bool false)], args := [d1, d2] }
  | _ => none }
def HeapTimersWrongFalsely : Prop := heapTimersRow.holds Try.pinned (OpenSpec.ofChange heapTimersWrong)

/-- 'rookerylaw2.HeapQueue': WHATEVER THE INPUT: true; the input reads as it did. -/
def heapQueueSpec : ChangeSpec := { name := "heapQueue", fn := fun _ => fun
  | [d] => { results := [.lit (.bool true)], args := [d] }
  | _ => none }
def heapQueueRow : OpenClaim := { program := "ytopmhacnopfifaa", sum := "e57f3d83b204e45a9e10dbe2b11a37fe79684c12f53abf9ff468320958ae60b7", func := "rookery/rookerylaw2.HeapQueue", spec := "heapQueue", unfollowed := true, recurses := true, apart := false }
def HeapQueueSaid : Prop := heapQueueRow.holds Try.pinned (OpenSpec.ofChange heapQueueSpec)

/-- ITS FALSE NEIGHBOUR: 'it returns false'. Refute it at one input. -/
def heapQueueWrong : ChangeSpec := { name := "heapQueue", fn := fun _ => fun
  | [d] => { results := [.lit (.bool false)], args := [d] }
  | _ => none }
def HeapQueueWrongFalsely : Prop := heapQueueRow.holds Try.pinned (OpenSpec.ofChange heapQueueWrong)

/-- 'rookerylaw2.HeapKept': WHATEVER THE INPUT: true; the input reads as it did. -/
def heapKeptSpec : ChangeSpec := { name := "heapKept", fn := fun _ => fun
  | [d] => { results := [.lit (.bool true)], args := [d] }
  | _ => none }
def heapKeptRow : OpenClaim := { program := "ytopmhacnopfifaa", sum := "e57f3d83b204e45a9e10dbe2b11a37fe79684c12f53abf9ff468320958ae60b7", func := "rookery/rookerylaw2.HeapKept", spec := "heapKept", unfollowed := true, recurses := true, apart := false }
def HeapKeptSaid : Prop := heapKeptRow.holds Try.pinned (OpenSpec.ofChange heapKeptSpec)

/-- ITS FALSE NEIGHBOUR: 'it returns false'. Refute it at one input. -/
def heapKeptWrong : ChangeSpec := { name := "heapKept", fn := fun _ => fun
  | [d] => { results := [.lit (.bool false)], args := [d] }
  | _ => none }
def HeapKeptWrongFalsely : Prop := heapKeptRow.holds Try.pinned (OpenSpec.ofChange heapKeptWrong)

/-- 'rookerylaw2.HeapKinds': WHATEVER THE INPUT: true; the input reads as it did. -/
def heapKindsSpec : ChangeSpec := { name := "heapKinds", fn := fun _ => fun
  | [d1, d2] => { results := [.lit (.bool true)], args := [d1, d2] }
  | _ => none }
def heapKindsRow : OpenClaim := { program := "ytopmhacnopfifaa", sum := "e57f3d83b204e45a9e10dbe2b11a37fe79684c12f53abf9ff468320958ae60b7", func := "rookery/rookerylaw2.HeapKinds", spec := "heapKinds", unfollowed := true, recurses := true, apart := false }
def HeapKindsSaid : Prop := heapKindsRow.holds Try.pinned (OpenSpec.ofChange heapKindsSpec)

/-- ITS FALSE NEIGHBOUR: 'it returns false'. Refute it at one input. -/
def heapKindsWrong : ChangeSpec := { name := "heapKinds", fn := fun _ => fun
  | [d1, d2] => { results := [.lit (.bool false)], args := [d1, d2] }
  | _ => none }
def HeapKindsWrongFalsely : Prop := heapKindsRow.holds Try.pinned (OpenSpec.ofChange heapKindsWrong)

/- THE SECOND FORM. 'bulk': how many values and letters a reading holds, each counted each time it is reached (what is shared counts as often as it is met; a slice's spare places count too). A statement '..UptoSaid' is the law's where the arguments, and the package variables that the reading takes, are together of bulk at most 1048576: NARROWER than '..Said'. Prove '..Said' where nothing that the law and all that it calls make is longer than what came in: it says more and counts as full. Else prove '..UptoSaid'. A law counts once. -/
mutual
def uptoBulk {H : Type} : DataW H → Nat
  | .lit (.string bytes) => bytes.length + 1
  | .lit _ => 1
  | .nil => 1
  | .ptr d => uptoBulk d + 1
  | .slice elems spare => uptoBulkAll elems + uptoBulkAll spare + 1
  | .agg parts => uptoBulkAll parts + 1
  | .iface _ d => uptoBulk d + 1
  | .map entries => uptoBulkEntries entries + 1
  | .held _ => 1
def uptoBulkAll {H : Type} : List (DataW H) → Nat
  | [] => 0
  | d :: r => uptoBulk d + uptoBulkAll r
def uptoBulkEntries {H : Type} : List (Lit × DataW H) → Nat
  | [] => 0
  | x :: r => uptoBulkEntry x + uptoBulkEntries r
def uptoBulkEntry {H : Type} : Lit × DataW H → Nat
  | (.string bytes, d) => bytes.length + uptoBulk d + 1
  | (_, d) => uptoBulk d + 1
 end
def uptoSmall : (H : Type) → List (DataW H) → Bool := fun _ ds => decide (uptoBulkAll ds ≤ 1048576)
def OpenSpec.upto (s : _root_.Go.ChangeSpec) : _root_.Go.OpenSpec := { _root_.Go.OpenSpec.ofChange s with cond := some uptoSmall }

/-- 'rookerylaw2.HeapOwn', WHERE WHAT IT READS IS OF BULK AT MOST 1048576: true; the input reads as it did. -/
def heapOwnUptoRow : OpenClaim := { program := "ytopmhacnopfifaa", sum := "e57f3d83b204e45a9e10dbe2b11a37fe79684c12f53abf9ff468320958ae60b7", func := "rookery/rookerylaw2.HeapOwn", spec := "heapOwn", unfollowed := true, recurses := true, apart := false, narrowed := true }
def HeapOwnUptoSaid : Prop := heapOwnUptoRow.holds Try.pinned (OpenSpec.upto heapOwnSpec)

/-- 'rookerylaw2.HeapTimers', WHERE WHAT IT READS IS OF BULK AT MOST 1048576: true; the input reads as it did. -/
def heapTimersUptoRow : OpenClaim := { program := "ytopmhacnopfifaa", sum := "e57f3d83b204e45a9e10dbe2b11a37fe79684c12f53abf9ff468320958ae60b7", func := "rookery/rookerylaw2.HeapTimers", spec := "heapTimers", unfollowed := true, recurses := true, apart := false, narrowed := true }
def HeapTimersUptoSaid : Prop := heapTimersUptoRow.holds Try.pinned (OpenSpec.upto heapTimersSpec)

/-- 'rookerylaw2.HeapQueue', WHERE WHAT IT READS IS OF BULK AT MOST 1048576: true; the input reads as it did. -/
def heapQueueUptoRow : OpenClaim := { program := "ytopmhacnopfifaa", sum := "e57f3d83b204e45a9e10dbe2b11a37fe79684c12f53abf9ff468320958ae60b7", func := "rookery/rookerylaw2.HeapQueue", spec := "heapQueue", unfollowed := true, recurses := true, apart := false, narrowed := true }
def HeapQueueUptoSaid : Prop := heapQueueUptoRow.holds Try.pinned (OpenSpec.upto heapQueueSpec)

/-- 'rookerylaw2.HeapKept', WHERE WHAT IT READS IS OF BULK AT MOST 1048576: true; the input reads as it did. -/
def heapKeptUptoRow : OpenClaim := { program := "ytopmhacnopfifaa", sum := "e57f3d83b204e45a9e10dbe2b11a37fe79684c12f53abf9ff468320958ae60b7", func := "rookery/rookerylaw2.HeapKept", spec := "heapKept", unfollowed := true, recurses := true, apart := false, narrowed := true }
def HeapKeptUptoSaid : Prop := heapKeptUptoRow.holds Try.pinned (OpenSpec.upto heapKeptSpec)

/-- 'rookerylaw2.HeapKinds', WHERE WHAT IT READS IS OF BULK AT MOST 1048576: true; the input reads as it did. -/
def heapKindsUptoRow : OpenClaim := { program := "ytopmhacnopfifaa", sum := "e57f3d83b204e45a9e10dbe2b11a37fe79684c12f53abf9ff468320958ae60b7", func := "rookery/rookerylaw2.HeapKinds", spec := "heapKinds", unfollowed := true, recurses := true, apart := false, narrowed := true }
def HeapKindsUptoSaid : Prop := heapKindsUptoRow.holds Try.pinned (OpenSpec.upto heapKindsSpec)

end Rows
end Go.Proofs.Ytopmhacnopfifaa
