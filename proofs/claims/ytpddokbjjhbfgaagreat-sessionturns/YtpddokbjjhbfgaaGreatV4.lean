import Derived.Test.YtpddokbjjhbfgaaGreatChecked
import Derived.WalkKit
import Derived.ProofKit
import Derived.Maps.OwnSet
import Derived.Maps.RangeWalk
import Derived.DeepKeys4
import Derived.MapViews
import Derived.StringKeys
import Derived.Lib.TrailingZeros
import Derived.OpenShut
import Derived.Deep.QuietTactic
import Derived.BigQuiet
import Derived.BigRegion
import Derived.Laws.CopyOwn
import Derived.Laws.Bits64b
import Derived.Laws.MathBits
import Derived.Laws.ShiftsVarLaws
import Derived.WalkSmall
import Derived.Laws.ResultCell
import Derived.Lib.BitFns
import Derived.Laws.StructEq
import Derived.Deep.RegionHeld
import Derived.ArgAppend
import Derived.Deep.RegionLaw
import Derived.Deep.DeepAppendRoom
import Derived.Sort.WalkA
import Derived.Laws.Strings
import Derived.Deep.CutBlock
import Derived.Great.BuildSlice
import Derived.Laws.AppendOwnNone
import Derived.Laws.BytesString
import Derived.Lib.Overlaps
import Derived.Lib.AppendZerosOnto
import Derived.Laws.NewBlocks
import Derived.Laws.Externs
import Derived.Laws.IdiomCopy
import Derived.RangeFuncNested
import Derived.RangeFuncBound
import Derived.RangeFuncCalls
import Derived.RangeFuncLeaves
import Derived.Shelf.Abstract
import Derived.Shelf.RegionOpen
import Derived.OwnWalkIn
import Derived.TacticsInMore
import Derived.LoopNIn
import Derived.LoopIn
import Derived.Deep.CutRange
import Derived.Deep.OwnRows
import Derived.Lib.Walk
import Derived.Lib.SliceRun
import GoSem.Claim
import GoSem.ClaimJoined
import GoSem.ClaimMapViews
import Derived.JoinedTies
import Derived.KernelRfl
import Derived.Lib.LaidTab
import Derived.JoinedCond
import Derived.ShutString
import Derived.ChangeOld
import Derived.Below
import Derived.Carry
import Derived.ChangeSlices
import Derived.Deep.Slices
import Derived.Deep.DeepHandedRow
import Derived.RowKit
import Derived.ChangeShapes
import Derived.SizedLaws
import Derived.ChangeMaps5
import Derived.OrdersHeld
import Derived.Lib.AppendStr
import Derived.Lib.ConvBytes
import Derived.Deep.RegionHeld3
import Derived.Deep.MidRow
import Derived.Laws.BitsAllLaws
import Derived.Sort.Grow
import Derived.Shelf.SlSortCmp.WholeK
import Derived.Shelf.Lay
import Derived.Ground.SlsfProg
import Derived.Sort.LotA
import Derived.Sort.MapsRangeIn
import Derived.RangeFuncSeq
import Derived.RangeFuncKeeps
import Derived.Maps.AppendAt
import Derived.OwnWalk
import Derived.Test.YtpddokbjjhbfgaaGreatRows
import Derived.Test.YtpddokbjjhbfgaaGreatV3
namespace Go.Proofs.YtpddokbjjhbfgaaGreat.ds
open Go.ChangeShapes Go.WideShapes Go.ChangeAt Go.RowKit
set_option linter.unusedVariables false
theorem equal52 (W : World) (n b m c : Int) (t u : Int) : Sem.run Tryz.prog (Op.equalIn 10000 94 (.agg #[.int .i64 n, .int .i64 b, .int .u64 t]) (.agg #[.int .i64 m, .int .i64 c, .int .u64 u])) W = .ok (decide (n = m ∧ b = c ∧ t = u)) W := by
  have hS : Tryz.prog.underlying 94 = some (.struct (Tryz.prog.fieldsOf 94)) := by kernel_rfl
  have hp : Tryz.prog.stoodInHeld 94 = false := by kernel_rfl
  rw [show (10000 : Nat) = 9998 + 1 + 1 from rfl, run_equalIn_agg _ _ _ _ _ hS hp]
  simp only [Program.fieldsOf, Tryz.underlying94]
  simp [go_sem, Tryz.underlying3, Tryz.underlying92]
  by_cases h1 : n = m <;> by_cases h2 : b = c <;> by_cases h3 : t = u <;> simp [h1, h2, h3, go_sem]
theorem guard52 : Tryz.prog.eqGuardType Tryz.prog.depth 94 = false := by kernel_rfl
theorem eql52 (W : World) (n b m c : Int) (t u : Int) : Sem.run Tryz.prog (binOp BinOp.eql 94 (.agg #[.int .i64 n, .int .i64 b, .int .u64 t]) (.agg #[.int .i64 m, .int .i64 c, .int .u64 u])) W = .ok (.bool (decide (n = m ∧ b = c ∧ t = u))) W := by
  rw [run_eql_struct, equal52]; rfl
theorem node_yes (n : Int) (w : World) (h0 : 0 ≤ n) (h8 : n < 8) : Calls Tryz.prog 97 #[.int .i64 n] w fun r w' => r = .returned (.bool true) ∧ w' = w := by
  have := node_ok n w
  rwa [decide_eq_true ⟨h0, h8⟩] at this
theorem node_no (n : Int) (w : World) (h : ¬ (0 ≤ n ∧ n < 8)) : Calls Tryz.prog 97 #[.int .i64 n] w fun r w' => r = .returned (.bool false) ∧ w' = w := by
  have := node_ok n w
  rwa [decide_eq_false h] at this
theorem span_a (n b gap : Int) (t : Nat) (w : World) (h : ¬ (0 ≤ n ∧ n < 8)) : Calls Tryz.prog 99 #[.agg #[.int .i64 n, .int .i64 b, .int .u64 t], .int .i64 gap] w fun r w' => r = .returned (.bool false) ∧ Apart [] w w' := by
  go_enter Tryz.func99, Tryz.ntmps99
  go_wp2_with fail
  go_quiet (first | (go_at_call 97; exact Calls.quiet_of_same (node_no n _ h)))
  go_wp2
  go_ret
  exact ⟨rfl, ((Apart.refl _ _).alloc _).drewN _⟩
theorem span_b (n b gap : Int) (t : Nat) (w : World) (h0 : 0 ≤ n) (h8 : n < 8) (hb : b < 0) : Calls Tryz.prog 99 #[.agg #[.int .i64 n, .int .i64 b, .int .u64 t], .int .i64 gap] w fun r w' => r = .returned (.bool false) ∧ Apart [] w w' := by
  have hd : decide (b < 0) = true := decide_eq_true hb
  go_enter Tryz.func99, Tryz.ntmps99
  go_wp2_with fail
  go_quiet (first | (go_at_call 97; exact Calls.quiet_of_same (node_yes n _ h0 h8)))
  go_wp2
  go_ret
  exact ⟨rfl, ((Apart.refl _ _).alloc _).drewN _⟩
theorem span_c (n b gap : Int) (t : Nat) (w : World) (h0 : 0 ≤ n) (h8 : n < 8) (hb0 : 0 ≤ b) (hb : 1048576 < b) : Calls Tryz.prog 99 #[.agg #[.int .i64 n, .int .i64 b, .int .u64 t], .int .i64 gap] w fun r w' => r = .returned (.bool false) ∧ Apart [] w w' := by
  have hd : decide (b < 0) = false := decide_eq_false (by omega)
  have hd2 : decide (1048576 < b) = true := decide_eq_true hb
  go_enter Tryz.func99, Tryz.ntmps99
  go_wp2_with fail
  go_quiet (first | (go_at_call 97; exact Calls.quiet_of_same (node_yes n _ h0 h8)))
  go_wp2
  go_ret
  exact ⟨rfl, ((Apart.refl _ _).alloc _).drewN _⟩
/-- a bool that says p -/
def Tells (r : Ending) (p : Prop) : Prop := ∃ v : Bool, r = .returned (.bool v) ∧ (v = true ↔ p)
theorem Tells.yes {p : Prop} (h : p) : Tells (.returned (.bool true)) p := ⟨true, rfl, by simp [h]⟩
theorem Tells.no {p : Prop} (h : ¬ p) : Tells (.returned (.bool false)) p := ⟨false, rfl, by simp [h]⟩
theorem low1 (t : Nat) (ht : t < 2 ^ 64) : (bits BinOp.and IntKind.u64 (t : Int) 1 == 0) = decide (t % 2 = 0) := by
  have e : bits BinOp.and IntKind.u64 (t : Int) 1 = _ := and_nat t 1 (by omega) (by omega)
  rw [e, Nat.and_one_is_mod]
  by_cases h : t % 2 = 0
  · rw [h]; rfl
  · rw [decide_eq_false h]; simp; omega
theorem bl64 {t : Nat} (ht : t < 2 ^ 64) : bl t ≤ 64 := bl_le.2 ht
set_option maxHeartbeats 1000000 in
theorem span_d (n b gap : Int) (t : Nat) (w : World) (h0 : 0 ≤ n) (h8 : n < 8) (hb0 : 0 ≤ b) (hb : b ≤ 1048576) (ht : t < 2 ^ 64) : Calls Tryz.prog 99 #[.agg #[.int .i64 n, .int .i64 b, .int .u64 t], .int .i64 gap] w fun r w' => Tells r (Ok gap ⟨n, b, t⟩) ∧ Apart [] w w' := by
  have hd : decide (b < 0) = false := decide_eq_false (by omega)
  have hd2 : decide (1048576 < b) = false := decide_eq_false (by omega)
  have hbl := bl64 ht
  obtain ⟨z, HZ⟩ : ∃ z, Hid (z = decide (b = 0 ∧ t = 0)) := ⟨_, rfl⟩
  have heq : ∀ W, Sem.run Tryz.prog (binOp BinOp.eql 94 (.agg #[.int .i64 n, .int .i64 b, .int .u64 t]) (.agg #[.int .i64 n, .int .i64 0, .int .u64 0])) W = .ok (.bool z) W := by
    intro W
    rw [eql52, HZ.out]
    congr 2
    simp
  have hl1 := low1 t ht
  have hgd := guard52
  go_enter Tryz.func99, Tryz.ntmps99
  go_wp2_with fail
  have bV := new1 w #[.int .i64 n, .int .i64 b, .int .u64 t] 94
  have aV : Apart [] w (w.alloc (.cells #[.int .i64 n, .int .i64 b, .int .u64 t] 94)) := (Apart.refl _ _).alloc _
  generalize w.alloc (.cells #[.int .i64 n, .int .i64 b, .int .u64 t] 94) = V at *
  have r0 : ∀ W, Apart [] V W → W.cell? ⟨w.heap.size, 0, none⟩ = some (.int .i64 n) := fun W a => (rowc ((a.block _ (lt_of_heap bV) (by simp)).trans bV)).1.1
  have r1 : ∀ W, Apart [] V W → W.cell? ⟨w.heap.size, 1, none⟩ = some (.int .i64 b) := fun W a => (rowc ((a.block _ (lt_of_heap bV) (by simp)).trans bV)).1.2.1
  have r2 : ∀ W, Apart [] V W → W.cell? ⟨w.heap.size, 2, none⟩ = some (.int .u64 t) := fun W a => (rowc ((a.block _ (lt_of_heap bV) (by simp)).trans bV)).1.2.2
  have a1 : Apart [] V V.drew := (Apart.refl _ _).drew
  go_region_held (fun W => Apart [] V W) (assumption) (first
    | (go_at_call 97; refine (node_yes n _ h0 h8).mono ?_; rintro r w2 ⟨rfl, rfl⟩)
    | (go_at_call 98; refine (none_ok n _).mono ?_; rintro r w3 ⟨rfl, a3⟩; have a4 := a1.trans a3))
  have a5 : Apart [] w w3 := aV.trans a4
  have R1 := r1 w3 a4
  have R2 := r2 w3 a4
  clear r0 r1 r2 a1 a3 a4 bV heq hgd hd hd2
  have hwb : IntKind.i64.wrap (b + (bl t : Int)) = b + (bl t : Int) := by rw [IntKind.wrap_i64]; omega
  cases z
  case true =>
    have hz := of_decide_eq_true HZ.out.symm
    go_wp2
    go_ret
    exact ⟨.no fun k => k.ne hz, a5⟩
  case false =>
    have hz := of_decide_eq_false HZ.out.symm
    clear HZ
    by_cases h1 : t % 2 = 0
    · by_cases h2 : (bl t : Int) ≤ gap
      · by_cases h3 : b + bl t ≤ 1048576
        · go_wp2_with (go_at_call 78; refine (len64 t ht _).mono ?_; rintro r w4 ⟨rfl, rfl⟩)
          go_ret
          exact ⟨.yes ⟨h0, h8, hb0, hb, hz, h1, h2, h3⟩, a5⟩
        · have H3 : Hid (¬ b + bl t ≤ 1048576) := h3
          go_wp2_with (go_at_call 78; refine (len64 t ht _).mono ?_; rintro r w4 ⟨rfl, rfl⟩)
          go_ret
          exact ⟨⟨decide (b + bl t ≤ 1048576), rfl, by rw [decide_eq_true_eq]; exact ⟨fun h => absurd h (Int.not_le.2 H3.out), fun k => k.mx⟩⟩, a5⟩
      · have H2 : Hid (¬ (bl t : Int) ≤ gap) := h2
        go_wp2_with (go_at_call 78; refine (len64 t ht _).mono ?_; rintro r w4 ⟨rfl, rfl⟩)
        go_ret
        exact ⟨.no fun k => Int.not_le.2 H2.out k.gp, a5⟩
    · have H1 : Hid (¬ t % 2 = 0) := h1
      go_wp2_with (go_at_call 78; refine (len64 t ht _).mono ?_; rintro r w4 ⟨rfl, rfl⟩)
      go_ret
      exact ⟨.no fun k => H1.out k.ev, a5⟩
theorem isSpan_ok (x : S) (gap : Int) (w : World) (ht : x.t < 2 ^ 64) : Calls Tryz.prog 99 #[spv x, .int .i64 gap] w fun r w' => Tells r (Ok gap x) ∧ Apart [] w w' := by
  by_cases h : 0 ≤ x.n ∧ x.n < 8
  · by_cases hb : 0 ≤ x.b
    · by_cases hb1 : x.b ≤ 1048576
      · exact span_d x.n x.b gap x.t w h.1 h.2 hb hb1 ht
      · refine (span_c x.n x.b gap x.t w h.1 h.2 hb (by omega)).mono ?_
        rintro r w1 ⟨rfl, a1⟩
        exact ⟨.no fun k => hb1 k.bM, a1⟩
    · refine (span_b x.n x.b gap x.t w h.1 h.2 (by omega)).mono ?_
      rintro r w1 ⟨rfl, a1⟩
      exact ⟨.no fun k => hb k.b0, a1⟩
  · refine (span_a x.n x.b gap x.t w h).mono ?_
    rintro r w1 ⟨rfl, a1⟩
    exact ⟨.no fun k => h ⟨k.n0, k.n8⟩, a1⟩
end Go.Proofs.YtpddokbjjhbfgaaGreat.ds

