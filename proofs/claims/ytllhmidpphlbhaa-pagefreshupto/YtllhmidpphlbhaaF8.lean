import Derived.Deep.RegionHeld
import Derived.OrdersHeld
import Derived.WalkKit
import Derived.ProofKit
import Derived.Lib.TrailingZeros
import Derived.Test.YtllhmidpphlbhaaChecked
import Derived.OpenShut
import Derived.Deep.QuietTactic
import Derived.BigQuiet
import Derived.BigRegion
import Derived.Laws.CopyOwn
import Derived.Laws.Bits64b
import Derived.Laws.MathBits
import Derived.Laws.ShiftsVarLaws
import Derived.WalkSmall
import Derived.Laws.ResultCell
import Derived.Lib.BitFns
import Derived.Laws.StructEq
import Derived.ArgAppend
import Derived.Deep.RegionLaw
import Derived.Deep.DeepAppendRoom
import Derived.Sort.WalkA
import Derived.Laws.Strings
import Derived.Deep.CutBlock
import Derived.Great.BuildSlice
import Derived.Laws.AppendOwnNone
import Derived.Lib.Overlaps
import Derived.Lib.AppendZerosOnto
import Derived.Laws.NewBlocks
import Derived.Laws.Externs
import Derived.Laws.IdiomCopy
import Derived.Laws.BytesString
import Derived.Deep.CutRange
import Derived.RangeFuncNested
import Derived.RangeFuncBound
import Derived.RangeFuncCalls
import Derived.RangeFuncLeaves
import Derived.Shelf.Abstract
import Derived.Shelf.RegionOpen
import Derived.OwnWalkIn
import Derived.TacticsInMore
import Derived.LoopNIn
import Derived.LoopIn
import GoSem.Claim
import GoSem.ClaimJoined
import GoSem.ClaimMapViews
import Derived.JoinedTies
import Derived.KernelRfl
import Derived.Deep.OwnRows
import Derived.Lib.LaidTab
import Derived.JoinedCond
import Derived.ShutString
import Derived.ChangeOld
import Derived.Below
import Derived.Carry
import Derived.ChangeSlices
import Derived.Deep.Slices
import Derived.Deep.DeepHandedRow
import Derived.RowKit
import Derived.ChangeShapes
import Derived.SizedLaws
import Derived.ChangeMaps5
import Derived.Lib.Walk
import Derived.Lib.SliceRun
import Derived.Lib.AppendStr
import Derived.Lib.ConvBytes
import Derived.Deep.RegionHeld3
import Derived.Deep.MidRow
import Derived.Laws.MakeOwn
import Derived.Lib.SlBytesConst
import Derived.Test.YtllhmidpphlbhaaRows
import Derived.Test.YtllhmidpphlbhaaF6
namespace Go.Proofs.Ytllhmidpphlbhaa.ds
open Go.ChangeShapes Go.WideShapes Go.ChangeAt Go.RowKit Go.Sort
set_option linter.unusedVariables false
set_option linter.unusedSimpArgs false
theorem wpList_app2 {w : World} {ops : Array Oper} {rest : List Oper} {o : Oper} {a : Act} {Q : Exit → Act → World → Prop} (hgd : o.guard = none) (s x : Operand) (t t' : TypeId)
    (ho : o.op = .call { callee := .builtin .append, args := #[s, x], argTypes := #[t, t'] }) (v u : Value) (hs : a.eval s = v) (hx : a.eval x = u) (v' : Value) (w' : World)
    (hrun : (Builtin.append_ #[t, t'] o.type #[v, u]).run Try.prog w = .ok v' w') (hK : wpList Try.prog ops Q rest (a.put o.dst v') w') : wpList Try.prog ops Q (o :: rest) a w := by
  refine wpList_plain hgd fun K hK' => ?_
  unfold Oper.wp
  simp [execOp, ho, resolve, invoke, builtin, hs, hx, hrun, Result.andThen]
  exact hK' _ _ hK
theorem step_app2 {w : World} {ops : Array Oper} {o : Oper} {a : Act} {K : Act → World → Prop} {Q : Exit → Act → World → Prop} {E : Prop} (hgd : o.guard = none) (s x : Operand) (t t' : TypeId)
    (ho : o.op = .call { callee := .builtin .append, args := #[s, x], argTypes := #[t, t'] }) (v u : Value) (hs : a.eval s = v) (hx : a.eval x = u) (v' : Value) (w' : World)
    (hrun : (Builtin.append_ #[t, t'] o.type #[v, u]).run Try.prog w = .ok v' w') (hK : K (a.put o.dst v') w') : if Region.wanted o (yielded ops a.tmps) = true then Oper.wp Try.prog o a w K Q else E := by
  have hw : Region.wanted o (yielded ops a.tmps) = true := by simp [Region.wanted, hgd]
  rw [if_pos hw]
  unfold Oper.wp
  simp [execOp, ho, resolve, invoke, builtin, hs, hx, hrun, Result.andThen]
  exact hK
end Go.Proofs.Ytllhmidpphlbhaa.ds
namespace Go.Proofs.Ytllhmidpphlbhaa.ds
open Go.ChangeShapes Go.WideShapes Go.ChangeAt Go.RowKit Go.Sort
set_option linter.unusedVariables false
set_option linter.unusedSimpArgs false
theorem Nw.keepT {w0 w w' : World} {e size : Nat} {s : Sl} {us : List Value} {X : List Nat} (h : Nw w0 w e size s us) (a : Apart X w w') (ap : Apart [] w0 w') (hX : ∀ k ∈ X, ∀ cur, w.heap[k]? ≠ some (.cells cur e (0, 0))) : Nw w0 w' e size s us :=
  ⟨own_apart h.own a (fun k hk hm => by obtain ⟨cur, e1⟩ := own_typ h.own hk; exact hX k hm cur e1), h.new, ap⟩
end Go.Proofs.Ytllhmidpphlbhaa.ds
namespace Go.Proofs.Ytllhmidpphlbhaa.ds
open Go.ChangeShapes Go.WideShapes Go.ChangeAt Go.RowKit Go.Sort
set_option linter.unusedVariables false
set_option linter.unusedSimpArgs false
/-- an operation that is not wanted, of whatever kind -/
theorem wpAnyH_pass {P : Program} {ops : Array Oper} {Q : Exit → Act → World → Prop} {md : Region.Mode} {S : World → Prop} {fuel : Nat} {listed : Array Bool} {a : Act} {w : World} (i : Nat) {o : Oper} (hr : Region.ready md ops listed = [i]) (ho : ops[i]? = some o) (hw : Region.wanted o (yielded ops a.tmps) = false) (hS : S w) (h : wpAnyH P md ops Q S fuel (listed.setIfInBounds i true) (a.put o.dst undef) w) : wpAnyH P md ops Q S (fuel + 1) listed a w :=
  wpAnyH_ready hr (by simp) (AllReadyH.cons ho (fun K' hK => by rw [if_neg (by rw [hw]; simp)]; exact hK.out _ _ hS (fun _ => h)) AllReadyH.nil)
end Go.Proofs.Ytllhmidpphlbhaa.ds
namespace Go.Proofs.Ytllhmidpphlbhaa.ds
open Go.ChangeShapes Go.WideShapes Go.ChangeAt Go.RowKit
set_option linter.unusedVariables false
def hasv (xs : List S) (n c : Int) : Bool := (decide (0 ≤ n ∧ n < 8) && decide (1 ≤ c ∧ c ≤ 1048576)) && dot (ofn xs n) c
theorem take_g {xs : List S} {i : Nat} (hi : i < xs.length) : xs.take (i + 1) = xs.take i ++ [g xs i] := by
  rw [List.take_succ_eq_append_getElem hi]
  unfold g
  rw [List.getD_eq_getElem?_getD, List.getElem?_eq_getElem hi]; rfl
set_option linter.unusedSimpArgs false
theorem has_any {p : Option Addr} {N cap : Nat} {xs : List S} {w : World} (dn dc : Int) (h : L w p N xs) (v : Bool) (hv : v = hasv (norm xs) dn dc) : Calls Try.prog 107 #[.slice p N cap, .agg #[.int .i64 dn, .int .i64 dc]] w fun r w' => r = .returned (.bool v) ∧ Apart [] w w' := by
  subst hv
  by_cases hd : IsDot dn dc
  · have := has_yes (cap := cap) dn dc h hd
    unfold hasv
    rw [decide_eq_true hd.1, decide_eq_true hd.2]
    exact this
  · have := has_no (p := p) (N := N) (cap := cap) (w := w) dn dc hd
    have e : hasv (norm xs) dn dc = false := by
      unfold hasv
      by_cases h1 : 0 ≤ dn ∧ dn < 8
      · rw [decide_eq_false (p := 1 ≤ dc ∧ dc ≤ 1048576) (fun h2 => hd ⟨h1, h2⟩)]; simp
      · rw [decide_eq_false h1]; simp
    rw [e]
    exact this
end Go.Proofs.Ytllhmidpphlbhaa.ds

namespace Go.Proofs.Ytllhmidpphlbhaa.ds
open Go.ChangeShapes Go.WideShapes Go.ChangeAt Go.RowKit
set_option linter.unusedVariables false
theorem gap_ok (n : Int) (w : World) : Calls Try.prog 108 #[.int .i64 n] w fun r w' => r = .returned (.bool (decide (1 ≤ n ∧ n ≤ 64))) ∧ w' = w := by
  by_cases h1 : 1 ≤ n <;> by_cases h2 : n ≤ 64
  all_goals
    go_enter Try.func108, Try.ntmps108
    go_wp2
    go_ret
    exact ⟨by simp [h1, h2], rfl⟩
end Go.Proofs.Ytllhmidpphlbhaa.ds

namespace Go.Proofs.Ytllhmidpphlbhaa.ds
open Go.ChangeShapes Go.WideShapes Go.ChangeAt Go.RowKit
set_option linter.unusedVariables false
theorem gap_yes (n : Int) (w : World) (h : 1 ≤ n ∧ n ≤ 64) : Calls Try.prog 108 #[.int .i64 n] w fun r w' => r = .returned (.bool true) ∧ w' = w := by
  have := gap_ok n w
  rwa [decide_eq_true h] at this
theorem gap_no (n : Int) (w : World) (h : ¬ (1 ≤ n ∧ n ≤ 64)) : Calls Try.prog 108 #[.int .i64 n] w fun r w' => r = .returned (.bool false) ∧ w' = w := by
  have := gap_ok n w
  rwa [decide_eq_false h] at this
theorem check_arg {p : Option Addr} {N cap : Nat} {xs : List S} {gap : Int} {w : World} (hg : ¬ (1 ≤ gap ∧ gap ≤ 64)) : Calls Try.prog 106 #[.slice p N cap, .int .i64 gap] w fun r w' => r = .returned (.int .i64 1) ∧ Apart [] w w' := by
  go_enter Try.func106, Try.ntmps106
  go_wp2_with (go_at_call 108; refine (gap_no gap _ hg).mono ?_; rintro r w1 ⟨rfl, rfl⟩)
  go_ret
  exact ⟨rfl, Apart.refl _ _⟩
theorem check_yes {p : Option Addr} {N cap : Nat} {xs : List S} {gap : Int} {w : World} (h : L w p N xs) (hg : 1 ≤ gap ∧ gap ≤ 64) (k : OkL gap xs) : Calls Try.prog 106 #[.slice p N cap, .int .i64 gap] w fun r w' => r = .returned (.int .i64 0) ∧ Apart [] w w' := by
  go_enter Try.func106, Try.ntmps106
  go_wp2_with (first | (go_at_call 108; refine (gap_yes gap _ hg).mono ?_; rintro r w1 ⟨rfl, rfl⟩) | (go_at_call 109; refine (isSet_yes h k).mono ?_; rintro r w2 ⟨rfl, a2⟩))
  go_ret
  exact ⟨rfl, a2⟩
theorem check_no {p : Option Addr} {N cap : Nat} {xs : List S} {gap : Int} {w : World} (h : L w p N xs) (hg : 1 ≤ gap ∧ gap ≤ 64) (k : ¬ OkL gap xs) : Calls Try.prog 106 #[.slice p N cap, .int .i64 gap] w fun r w' => r = .returned (.int .i64 30) ∧ Apart [] w w' := by
  go_enter Try.func106, Try.ntmps106
  go_wp2_with (first | (go_at_call 108; refine (gap_yes gap _ hg).mono ?_; rintro r w1 ⟨rfl, rfl⟩) | (go_at_call 109; refine (isSet_no h k).mono ?_; rintro r w2 ⟨rfl, a2⟩))
  go_ret
  exact ⟨rfl, a2⟩
end Go.Proofs.Ytllhmidpphlbhaa.ds

namespace Go.Proofs.Ytllhmidpphlbhaa.ds
open Go.ChangeShapes Go.WideShapes Go.ChangeAt Go.RowKit
set_option linter.unusedVariables false
open Classical in
/-- what Check answers -/
noncomputable def chk (xs : List S) (gap : Int) : Int := if 1 ≤ gap ∧ gap ≤ 64 then (if OkL gap xs then 0 else 30) else 1
theorem check_as {p : Option Addr} {N cap : Nat} {xs : List S} {gap : Int} {w : World} (h : L w p N xs) (e : Int) (he : e = chk xs gap) : Calls Try.prog 106 #[.slice p N cap, .int .i64 gap] w fun r w' => r = .returned (.int .i64 e) ∧ Apart [] w w' := by
  subst he
  unfold chk
  by_cases hg : 1 ≤ gap ∧ gap ≤ 64
  · rw [if_pos hg]
    by_cases k : OkL gap xs
    · rw [if_pos k]; exact check_yes h hg k
    · rw [if_neg k]; exact check_no h hg k
  · rw [if_neg hg]; exact check_arg (xs := xs) hg
end Go.Proofs.Ytllhmidpphlbhaa.ds

