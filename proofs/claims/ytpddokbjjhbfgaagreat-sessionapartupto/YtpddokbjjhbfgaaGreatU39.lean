import Derived.Test.YtpddokbjjhbfgaaGreatChecked
import Derived.WalkKit
import Derived.ProofKit
import Derived.Maps.OwnSet
import Derived.Maps.RangeWalk
import Derived.DeepKeys4
import Derived.MapViews
import Derived.StringKeys
import Derived.Lib.TrailingZeros
import Derived.OpenShut
import Derived.Deep.QuietTactic
import Derived.BigQuiet
import Derived.BigRegion
import Derived.Laws.CopyOwn
import Derived.Laws.Bits64b
import Derived.Laws.MathBits
import Derived.Laws.ShiftsVarLaws
import Derived.WalkSmall
import Derived.Laws.ResultCell
import Derived.Lib.BitFns
import Derived.Laws.StructEq
import Derived.Deep.RegionHeld
import Derived.ArgAppend
import Derived.Deep.RegionLaw
import Derived.Deep.DeepAppendRoom
import Derived.Sort.WalkA
import Derived.Laws.Strings
import Derived.Deep.CutBlock
import Derived.Great.BuildSlice
import Derived.Laws.BytesString
import Derived.Laws.AppendOwnNone
import Derived.Lib.Overlaps
import Derived.Lib.AppendZerosOnto
import Derived.Laws.NewBlocks
import Derived.Laws.Externs
import Derived.Laws.IdiomCopy
import Derived.RangeFuncNested
import Derived.RangeFuncBound
import Derived.RangeFuncCalls
import Derived.RangeFuncLeaves
import Derived.Shelf.Abstract
import Derived.Shelf.RegionOpen
import Derived.OwnWalkIn
import Derived.TacticsInMore
import Derived.LoopNIn
import Derived.LoopIn
import Derived.Deep.CutRange
import Derived.Deep.OwnRows
import Derived.Lib.Walk
import Derived.Lib.SliceRun
import GoSem.Claim
import GoSem.ClaimJoined
import GoSem.ClaimMapViews
import Derived.JoinedTies
import Derived.KernelRfl
import Derived.Lib.LaidTab
import Derived.JoinedCond
import Derived.ShutString
import Derived.ChangeOld
import Derived.Below
import Derived.Carry
import Derived.ChangeSlices
import Derived.Deep.Slices
import Derived.Deep.DeepHandedRow
import Derived.RowKit
import Derived.ChangeShapes
import Derived.SizedLaws
import Derived.ChangeMaps5
import Derived.OrdersHeld
import Derived.Lib.AppendStr
import Derived.Lib.ConvBytes
import Derived.Deep.RegionHeld3
import Derived.Deep.MidRow
import Derived.Laws.BitsAllLaws
import Derived.Sort.Grow
import Derived.Shelf.SlSortCmp.WholeK
import Derived.Shelf.Lay
import Derived.Ground.SlsfProg
import Derived.Sort.LotA
import Derived.Sort.MapsRangeIn
import Derived.RangeFuncSeq
import Derived.RangeFuncKeeps
import Derived.Maps.AppendAt
import Derived.OwnWalk
import Derived.Test.YtpddokbjjhbfgaaGreatRows
import Derived.Test.YtpddokbjjhbfgaaGreatU32
namespace Go.Proofs.YtpddokbjjhbfgaaGreat.ds
open Go.ChangeShapes Go.WideShapes Go.ChangeAt Go.RowKit Go.Sort
set_option linter.unusedVariables false
set_option linter.unusedSimpArgs false
set_option maxRecDepth 100000 in
/-- the document's Check -/
theorem rchk_ok {p : Option Addr} {N cap : Nat} {xs : List S} {gap : Int} {w : World} (h : L w p N xs) (e : Int) (he : e = chk xs gap) : Calls Tryz.prog 127 #[.slice p N cap, .int .i64 gap] w fun r w' => r = .returned (.int .i64 e) ∧ Apart [] w w' := by
  subst he
  unfold chk
  by_cases h1 : gap < 1
  · have hg : ¬ (1 ≤ gap ∧ gap ≤ 64) := by omega
    rw [if_neg hg]
    clear hg
    go_enter Tryz.func127, Tryz.ntmps127
    go_wp2_with fail
    go_ret
    exact ⟨rfl, Apart.refl _ _⟩
  by_cases h2 : gap > 64
  · have hg : ¬ (1 ≤ gap ∧ gap ≤ 64) := by omega
    rw [if_neg hg]
    clear hg
    go_enter Tryz.func127, Tryz.ntmps127
    go_wp2_with fail
    go_ret
    exact ⟨rfl, Apart.refl _ _⟩
  have hg : 1 ≤ gap ∧ gap ≤ 64 := by omega
  rw [if_pos hg]
  by_cases k : OkL gap xs
  · rw [if_pos k]
    have HC := hid (right_yes (cap := cap) h hg k)
    clear hg
    go_enter Tryz.func127, Tryz.ntmps127
    go_wp2_with fail
    refine HC.out.mono ?_
    rintro _ w1 ⟨rfl, a1⟩
    have HA := hid a1
    clear a1
    try dsimp only
    go_wp2_with fail
    go_ret
    exact ⟨rfl, HA.out⟩
  · rw [if_neg k]
    have HC := hid (right_no (cap := cap) h hg k)
    clear hg
    go_enter Tryz.func127, Tryz.ntmps127
    go_wp2_with fail
    refine HC.out.mono ?_
    rintro _ w1 ⟨rfl, a1⟩
    have HA := hid a1
    clear a1
    try dsimp only
    go_wp2_with fail
    go_ret
    exact ⟨rfl, HA.out⟩
theorem mod_succ_bit (t i : Nat) : t % 2 ^ (i + 1) = t % 2 ^ i + (if t.testBit i then 2 ^ i else 0) := by
  rw [Nat.testBit_eq_decide_div_mod_eq, Nat.pow_succ, Nat.mod_mul]
  have := Nat.mod_two_eq_zero_or_one (t / 2 ^ i)
  rcases this with h | h <;> simp [h]
theorem bl_bit (t i : Nat) : bl (t % 2 ^ (i + 1)) = if t.testBit i then i + 1 else bl (t % 2 ^ i) := by
  rw [mod_succ_bit]
  by_cases h : t.testBit i = true
  · rw [if_pos h, if_pos h]
    have hlt := Nat.mod_lt t (Nat.two_pow_pos i)
    have hle : bl (t % 2 ^ i + 2 ^ i) ≤ i + 1 := bl_le.2 (by rw [Nat.pow_succ]; omega)
    have hge : ¬ bl (t % 2 ^ i + 2 ^ i) ≤ i := fun hh => by have := bl_le.1 hh; omega
    omega
  · rw [if_neg h, if_neg h, Nat.add_zero]
theorem shr_mod (t i : Nat) : (((t >>> i : Nat) : Int).tmod 2 == 1) = t.testBit i := by
  rw [Nat.testBit_eq_decide_div_mod_eq, Nat.shiftRight_eq_div_pow]
  generalize t / 2 ^ i = y
  have e2 : (y : Int).tmod 2 = ((y % 2 : Nat) : Int) := rfl
  rw [e2]
  by_cases h : y % 2 = 1
  · rw [h]; rfl
  · rw [decide_eq_false h]; simp; omega
set_option maxHeartbeats 4000000 in
set_option maxRecDepth 100000 in
/-- the document's top -/
theorem dtop_ok (w : World) (x : S) (hb : 0 ≤ x.b ∧ x.b ≤ 1048576) (ht : x.t < 2 ^ 64) : Calls Tryz.prog 128 #[.agg #[.int .i64 x.n, .int .i64 x.b, .int .u64 (x.t : Nat)]] w fun r w' => r = .returned (.int .i64 (top x)) ∧ Apart [] w w' := by
  obtain ⟨X, HX⟩ : ∃ X, Hid (X = w.heap.size) := ⟨_, hid rfl⟩
  obtain ⟨w1, hw1⟩ : ∃ V, V = w.alloc (.cells #[.int .i64 x.n, .int .i64 x.b, .int .u64 (x.t : Nat)] 94) := ⟨_, rfl⟩
  have a1 : Apart [] w w1 := by rw [hw1]; exact (Apart.refl [] w).alloc _
  have hb1 : w1.heap[X]? = some (.cells #[.int .i64 x.n, .int .i64 x.b, .int .u64 (x.t : Nat)] 94 (0, 0)) := by rw [hw1, HX.out]; exact heap_alloc_new w _
  have HA := hid a1
  have c1 := crow hb1 1 (.int .i64 x.b) rfl
  have c2 := crow hb1 2 (.int .u64 (x.t : Nat)) rfl
  have HT := hid ht
  have HB := hid hb
  clear a1 hb1 ht hb
  go_enter Tryz.func128, Tryz.ntmps128
  go_upto_region 1 with fail
  rw [← hw1, ← HX.out]
  clear hw1 HX
  go_wp2_with fail
  go_loopw [3, 4] (fun n a wt => ∃ i : Nat, a = .int .i64 (i : Nat) ∧ i ≤ 64 ∧ wt = w1 ∧ ∃ v : Int, n = .int .i64 v ∧ Hid (v = x.b + (bl (x.t % 2 ^ i) : Nat))) (fun _ a _ => 64 - (intOf a).toNat)
  case atStart => exact ⟨0, rfl, Nat.zero_le _, rfl, x.b, rfl, hid (by simp [bl, Nat.mod_one])⟩
  case round =>
    obtain ⟨i, rfl, hile, rfl, v, rfl, HV⟩ := hrel
    by_cases hlt : i < 64
    · have hlti : ((i : Nat) : Int) < 64 := by omega
      have hsh := run_shr x.t (i : Int) (by omega) HT.out
      obtain ⟨b, Hb⟩ : ∃ b : Bool, Hid (b = x.t.testBit i) := ⟨_, hid rfl⟩
      have hbt : (((x.t : Int) / 2 ^ i).tmod 2 == 1) = b := by
        have e : (x.t : Int) / 2 ^ i = ((x.t / 2 ^ i : Nat) : Int) := by simp
        have := shr_mod x.t i
        rw [Nat.shiftRight_eq_div_pow] at this
        rw [e, this, Hb.out]
      have e1 : IntKind.i64.wrap (x.b + 1) = x.b + 1 := by rw [IntKind.wrap_i64]; have := HB.out; omega
      have e2 : IntKind.i64.wrap (x.b + 1 + ((i : Nat) : Int)) = x.b + 1 + ((i : Nat) : Int) := by rw [IntKind.wrap_i64]; have := HB.out; omega
      cases b with
      | true =>
        have HE : Hid (x.b + 1 + ((i : Nat) : Int) = x.b + (bl (x.t % 2 ^ (i + 1)) : Nat)) := hid (by rw [bl_bit, ← Hb.out]; simp; omega)
        go_wp2_with fail
        go_roundw
        case rel => exact ⟨i + 1, by go_num, by omega, by first | rfl | trivial, _, rfl, HE⟩
        case measure => simp [intOf]; omega
      | false =>
        have HE : Hid (v = x.b + (bl (x.t % 2 ^ (i + 1)) : Nat)) := hid (by rw [bl_bit, ← Hb.out]; simp; exact HV.out)
        go_wp2_with fail
        go_roundw
        case rel => exact ⟨i + 1, by go_num, by omega, by first | rfl | trivial, _, rfl, HE⟩
        case measure => simp [intOf]; omega
    · have hlti : ¬ ((i : Nat) : Int) < 64 := by omega
      have HE : Hid (v = top x) := by
        have hi : i = 64 := by omega
        have := HV.out
        rw [hi, Nat.mod_eq_of_lt HT.out] at this
        exact hid this
      go_wp2_with fail
      go_ret
      exact ⟨by rw [HE.out]; rfl, HA.out⟩
/-- one dot ahead of another -/
def belowD (a b : Dt) : Bool := decide (a.1 < b.1) || (decide (a.1 = b.1) && decide (a.2 < b.2))
set_option maxHeartbeats 4000000 in
set_option maxRecDepth 100000 in
theorem below_ok (w : World) (a b : Dt) : Calls Tryz.prog 92 #[.agg #[.int .i64 a.1, .int .i64 a.2], .agg #[.int .i64 b.1, .int .i64 b.2]] w fun r w' => r = .returned (.bool (belowD a b)) ∧ Apart [] w w' := by
  obtain ⟨X, HX⟩ : ∃ X, Hid (X = w.heap.size) := ⟨_, hid rfl⟩
  obtain ⟨w1, hw1⟩ : ∃ V, V = (w.alloc (.cells #[.int .i64 a.1, .int .i64 a.2] 34)).alloc (.cells #[.int .i64 b.1, .int .i64 b.2] 34) := ⟨_, rfl⟩
  have a1 : Apart [] w w1 := by rw [hw1]; exact ((Apart.refl [] w).alloc _).alloc _
  have h1 : w1.heap[X]? = some (.cells #[.int .i64 a.1, .int .i64 a.2] 34 (0, 0)) := by
    rw [hw1, HX.out]
    exact (((Apart.refl [] (w.alloc (.cells #[.int .i64 a.1, .int .i64 a.2] 34))).alloc _).block _ (by simp) (by simp)).trans (heap_alloc_new w _)
  have h2 : w1.heap[X + 1]? = some (.cells #[.int .i64 b.1, .int .i64 b.2] 34 (0, 0)) := by
    rw [hw1, HX.out]
    have := heap_alloc_new (w.alloc (.cells #[.int .i64 a.1, .int .i64 a.2] 34)) (.cells #[.int .i64 b.1, .int .i64 b.2] 34)
    simpa using this
  have HA := hid a1
  obtain ⟨c0, c1⟩ := row2v h1
  obtain ⟨c2, c3⟩ := row2v h2
  obtain ⟨v, Hv⟩ : ∃ v, Hid (v = belowD a b) := ⟨_, hid rfl⟩
  rw [← Hv.out]
  clear a1 h1 h2
  by_cases d1 : a.1 < b.1
  · have hv : v = true := by rw [Hv.out]; simp [belowD, d1]
    subst hv
    go_enter Tryz.func92, Tryz.ntmps92
    go_upto_region 1 with fail
    rw [← hw1, ← HX.out]
    clear hw1 HX
    go_wp2_with fail
    go_ret
    exact ⟨rfl, HA.out⟩
  · by_cases d2 : a.1 = b.1
    · have d2b : (a.1 == b.1) = true := by simp [d2]
      by_cases d3 : a.2 < b.2
      · have hv : v = true := by rw [Hv.out]; simp [belowD, d2, d3]
        subst hv
        clear d2
        go_enter Tryz.func92, Tryz.ntmps92
        go_upto_region 1 with fail
        rw [← hw1, ← HX.out]
        clear hw1 HX
        go_wp2_with fail
        go_ret
        exact ⟨rfl, HA.out⟩
      · have hv : v = false := by rw [Hv.out]; simp [belowD, d1, d2, d3]
        subst hv
        clear d2
        go_enter Tryz.func92, Tryz.ntmps92
        go_upto_region 1 with fail
        rw [← hw1, ← HX.out]
        clear hw1 HX
        go_wp2_with fail
        go_ret
        exact ⟨rfl, HA.out⟩
    · have d2b : (a.1 == b.1) = false := by simp [d2]
      have hv : v = false := by rw [Hv.out]; simp [belowD, d1, d2]
      subst hv
      clear d2
      go_enter Tryz.func92, Tryz.ntmps92
      go_upto_region 1 with fail
      rw [← hw1, ← HX.out]
      clear hw1 HX
      go_wp2_with fail
      go_ret
      exact ⟨rfl, HA.out⟩
end Go.Proofs.YtpddokbjjhbfgaaGreat.ds
