import Derived.Deep.RegionHeld
import Derived.OrdersHeld
import Derived.WalkKit
import Derived.ProofKit
import Derived.Lib.TrailingZeros
import Derived.Test.YtllhmidpphlbhaaChecked
import Derived.OpenShut
import Derived.Deep.QuietTactic
import Derived.BigQuiet
import Derived.BigRegion
import Derived.Laws.CopyOwn
import Derived.Laws.Bits64b
import Derived.Laws.MathBits
import Derived.Laws.ShiftsVarLaws
import Derived.WalkSmall
import Derived.Laws.ResultCell
import Derived.Lib.BitFns
import Derived.Laws.StructEq
import Derived.ArgAppend
import Derived.Deep.RegionLaw
import Derived.Deep.DeepAppendRoom
import Derived.Sort.WalkA
import Derived.Laws.Strings
import Derived.Deep.CutBlock
import Derived.Great.BuildSlice
import Derived.Laws.AppendOwnNone
import Derived.Lib.Overlaps
import Derived.Lib.AppendZerosOnto
import Derived.Laws.NewBlocks
import Derived.Laws.Externs
import Derived.Laws.IdiomCopy
import Derived.Laws.BytesString
import Derived.Deep.CutRange
import Derived.RangeFuncNested
import Derived.RangeFuncBound
import Derived.RangeFuncCalls
import Derived.RangeFuncLeaves
import Derived.Shelf.Abstract
import Derived.Shelf.RegionOpen
import Derived.OwnWalkIn
import Derived.TacticsInMore
import Derived.LoopNIn
import Derived.LoopIn
import GoSem.Claim
import GoSem.ClaimJoined
import GoSem.ClaimMapViews
import Derived.JoinedTies
import Derived.KernelRfl
import Derived.Deep.OwnRows
import Derived.Lib.LaidTab
import Derived.JoinedCond
import Derived.ShutString
import Derived.ChangeOld
import Derived.Below
import Derived.Carry
import Derived.ChangeSlices
import Derived.Deep.Slices
import Derived.Deep.DeepHandedRow
import Derived.RowKit
import Derived.ChangeShapes
import Derived.SizedLaws
import Derived.ChangeMaps5
import Derived.Lib.Walk
import Derived.Lib.SliceRun
import Derived.Lib.AppendStr
import Derived.Lib.ConvBytes
import Derived.Deep.RegionHeld3
import Derived.Deep.MidRow
import Derived.Laws.MakeOwn
import Derived.Lib.SlBytesConst
import Derived.Test.YtllhmidpphlbhaaRows
import Derived.Test.YtllhmidpphlbhaaF11
namespace Go.Proofs.Ytllhmidpphlbhaa.ds
open Go.ChangeShapes Go.WideShapes Go.ChangeAt Go.RowKit Go.Sort
set_option linter.unusedVariables false
set_option linter.unusedSimpArgs false
set_option maxRecDepth 100000 in
theorem keyed_ok (w : World) (k : ByteArray) (v : Bool) (hv : v = true ↔ 1 ≤ k.size ∧ k.size ≤ 16) : Calls Try.prog 83 #[.string k] w fun e w' => e = .returned (.bool v) ∧ w' = w := by
  have HV := hid hv
  clear hv
  by_cases h1 : 1 ≤ k.size
  · have h1i : ((k.size : Nat) : Int) ≥ 1 := by omega
    by_cases h2 : k.size ≤ 16
    · have h2i : ((k.size : Nat) : Int) ≤ 16 := by omega
      have hv : v = true := HV.out.2 ⟨h1, h2⟩
      subst hv
      go_enter Try.func83, Try.ntmps83
      go_wp2_with fail
      go_ret
      exact ⟨rfl, rfl⟩
    · have h2i : ¬ ((k.size : Nat) : Int) ≤ 16 := by omega
      have hv : v = false := by cases v with
        | false => rfl
        | true => exact absurd (HV.out.1 rfl).2 h2
      subst hv
      go_enter Try.func83, Try.ntmps83
      go_wp2_with fail
      go_ret
      exact ⟨rfl, rfl⟩
  · have h1i : ¬ ((k.size : Nat) : Int) ≥ 1 := by omega
    have hv : v = false := by cases v with
      | false => rfl
      | true => exact absurd (HV.out.1 rfl).1 h1
    subst hv
    go_enter Try.func83, Try.ntmps83
    go_wp2_with fail
    go_ret
    exact ⟨rfl, rfl⟩
theorem bl_mod (t i : Nat) : bl (t % 2 ^ (i + 1)) = if t.testBit i = true then i + 1 else bl (t % 2 ^ i) := by
  split
  · rename_i h
    have h1 : bl (t % 2 ^ (i + 1)) ≤ i + 1 := bl_le.2 (Nat.mod_lt _ (Nat.two_pow_pos _))
    have h2 : ¬ bl (t % 2 ^ (i + 1)) ≤ i := fun k => by
      have := bl_le'.1 k i (Nat.le_refl _)
      rw [Nat.testBit_mod_two_pow] at this
      simp [h] at this
    omega
  · rename_i h
    have e : t % 2 ^ (i + 1) = t % 2 ^ i := by
      apply Nat.eq_of_testBit_eq
      intro j
      rw [Nat.testBit_mod_two_pow, Nat.testBit_mod_two_pow]
      by_cases hj : j < i
      · simp [hj, Nat.lt_succ_of_lt hj]
      · by_cases hji : j = i
        · subst hji; simp at h; simp [h]
        · have : ¬ j < i + 1 := by omega
          simp [hj, this]
    rw [e]
theorem bit1 (t k : Nat) (ht : t < 2 ^ 64) : (bits BinOp.and IntKind.u64 ((t : Int) / 2 ^ k) 1 == 1) = t.testBit k := by
  have e0 : ((t : Int) / 2 ^ k) = ((t >>> k : Nat) : Int) := by
    rw [Nat.shiftRight_eq_div_pow]
    generalize hz : 2 ^ k = z
    have hz2 : (2 : Int) ^ k = (z : Int) := by rw [← hz]; simp
    rw [hz2]; rfl
  rw [e0]
  have e : bits BinOp.and IntKind.u64 ((t >>> k : Nat) : Int) 1 = _ := and_nat (t >>> k) 1 (shr_lt ht) (by omega)
  rw [e, Nat.testBit, Nat.and_comm 1]
  have hy : t >>> k &&& 1 ≤ 1 := Nat.and_le_right
  generalize t >>> k &&& 1 = y at *
  by_cases h : y = 0
  · subst h; rfl
  · have : y = 1 := by omega
    subst this; rfl
set_option maxHeartbeats 4000000 in
set_option maxRecDepth 100000 in
theorem rlast_ok (w : World) (x : S) (ht : x.t < 2 ^ 64) (hb : 0 ≤ x.b ∧ x.b ≤ 1000000000) : Calls Try.prog 105 #[.agg #[.int .i64 x.n, .int .i64 x.b, .int .u64 (x.t : Int)]] w fun e w' => e = .returned (.int .i64 (x.b + bl x.t)) ∧ Apart [] w w' := by
  obtain ⟨xn, xb, xt⟩ := x
  dsimp only at *
  obtain ⟨X, HXX⟩ : ∃ X, Hid (X = w.heap.size) := ⟨_, rfl⟩
  obtain ⟨w1, hw1⟩ : ∃ W, W = w.alloc (.cells #[.int .i64 xn, .int .i64 xb, .int .u64 (xt : Int)] 85) := ⟨_, rfl⟩
  have HX1 : Hid (w1.heap[X]? = some (.cells #[.int .i64 xn, .int .i64 xb, .int .u64 (xt : Int)] 85 (0, 0))) := by unfold Hid; rw [HXX.out, hw1]; exact heap_alloc_new w _
  have HA1 : Hid (Apart [] w w1) := by unfold Hid; rw [hw1]; exact (Apart.refl [] w).alloc _
  go_enter Try.func105, Try.ntmps105
  go_upto_region 1 with fail
  rw [← hw1, ← HXX.out]
  clear hw1 HXX
  obtain ⟨x0, x1, x2⟩ := row3v HX1.out
  go_wp2_with fail
  go_loopw [3, 4] (fun a b wt => ∃ i : Nat, a = .int .i64 (xb + bl (xt % 2 ^ i)) ∧ b = .int .i64 (i : Nat) ∧ i ≤ 64 ∧ wt = w1) (fun _ b _ => 64 - (intOf b).toNat)
  case atStart => exact ⟨0, by simp [bl, Nat.mod_one], rfl, by omega, rfl⟩
  case round =>
    obtain ⟨i, rfl, rfl, hi, hwr⟩ := hrel
    subst hwr
    have HBM := hid (bl_mod xt i)
    obtain ⟨lb, Hlb⟩ : ∃ lb, Hid (lb = bl (xt % 2 ^ i)) := ⟨_, rfl⟩
    obtain ⟨lb2, Hlb2⟩ : ∃ lb2, Hid (lb2 = bl (xt % 2 ^ (i + 1))) := ⟨_, rfl⟩
    rw [← Hlb.out, ← Hlb2.out] at HBM
    rw [← Hlb.out]
    by_cases hlt : i < 64
    · have hlti : ((i : Nat) : Int) < 64 := by omega
      have hwi : IntKind.u64.wrap (i : Int) = (i : Int) := by rw [IntKind.wrap_u64]; omega
      have hbit := bit1 xt i ht
      cases hbb : xt.testBit i with
      | true =>
        rw [hbb, if_pos rfl] at HBM
        rw [hbb] at hbit
        have hw1 : IntKind.i64.wrap (xb + 1) = xb + 1 := by rw [IntKind.wrap_i64]; omega
        have hw2 : IntKind.i64.wrap (xb + 1 + (i : Int)) = xb + 1 + (i : Int) := by rw [IntKind.wrap_i64]; omega
        clear hbb
        go_wp2_with fail
        go_roundw
        case rel => exact ⟨i + 1, by rw [← Hlb2.out, HBM.out]; congr 1; omega, by go_num, by omega, by first | rfl | trivial⟩
        case measure => simp [intOf]; omega
      | false =>
        rw [hbb, if_neg (by simp)] at HBM
        rw [hbb] at hbit
        clear hbb
        go_wp2_with fail
        go_roundw
        case rel => exact ⟨i + 1, by rw [← Hlb2.out, HBM.out], by go_num, by omega, by first | rfl | trivial⟩
        case measure => simp [intOf]; omega
    · have hlti : ¬ ((i : Nat) : Int) < 64 := by omega
      have hi64 : i = 64 := by omega
      have HF : Hid (lb = bl xt) := by unfold Hid; rw [Hlb.out, hi64, Nat.mod_eq_of_lt ht]
      clear hi64
      go_wp2_with fail
      go_ret
      exact ⟨by rw [← HF.out]; rfl, HA1.out⟩
end Go.Proofs.Ytllhmidpphlbhaa.ds
namespace Go.Proofs.Ytllhmidpphlbhaa.ds
open Go.ChangeShapes Go.WideShapes Go.ChangeAt Go.RowKit Go.Sort
set_option linter.unusedVariables false
set_option linter.unusedSimpArgs false

set_option maxHeartbeats 4000000 in
set_option maxRecDepth 100000 in
theorem rHas_ok (w : World) (x : S) (dn dc : Int) (ht : x.t < 2 ^ 64) (hb : 0 ≤ x.b ∧ x.b ≤ 1048576) (hc : dc ≤ 1048576) (v : Bool) (hv : v = true ↔ x.n = dn ∧ 1 ≤ dc ∧ dot x dc = true) : Calls Try.prog 101 #[.agg #[.int .i64 x.n, .int .i64 x.b, .int .u64 (x.t : Int)], .agg #[.int .i64 dn, .int .i64 dc]] w fun e w' => e = .returned (.bool v) ∧ Apart [] w w' := by
  obtain ⟨xn, xb, xt⟩ := x
  have HV := hid hv
  dsimp only at ht hb
  obtain ⟨X, HXX⟩ : ∃ X, Hid (X = w.heap.size) := ⟨_, rfl⟩
  obtain ⟨w1, hw1⟩ : ∃ W, W = w.alloc (.cells #[.int .i64 xn, .int .i64 xb, .int .u64 (xt : Int)] 85) := ⟨_, rfl⟩
  have HX1 : Hid (w1.heap[X]? = some (.cells #[.int .i64 xn, .int .i64 xb, .int .u64 (xt : Int)] 85 (0, 0))) := by unfold Hid; rw [HXX.out, hw1]; exact heap_alloc_new w _
  have HA1 : Hid (Apart [] w w1) := by unfold Hid; rw [hw1]; exact (Apart.refl [] w).alloc _
  obtain ⟨Y, HXY⟩ : ∃ X, Hid (X = w1.heap.size) := ⟨_, rfl⟩
  obtain ⟨w2, hw2⟩ : ∃ W, W = w1.alloc (.cells #[.int .i64 dn, .int .i64 dc] 47) := ⟨_, rfl⟩
  have HY2 : Hid (w2.heap[Y]? = some (.cells #[.int .i64 dn, .int .i64 dc] 47 (0, 0))) := by unfold Hid; rw [HXY.out, hw2]; exact heap_alloc_new w1 _
  have HS2 : Hid (Apart [] w1 w2) := by unfold Hid; rw [hw2]; exact (Apart.refl [] w1).alloc _
  have HX2 := hid (keep0 HS2.out HX1.out)
  have HA2 := hid (HA1.out.trans HS2.out)
  have heY : X + 1 = Y := by rw [HXY.out, hw1, HXX.out]; exact (Array.size_push _).symm
  have no : ((xn = dn ∧ 1 ≤ dc ∧ dot (⟨xn, xb, xt⟩ : S) dc = true) → False) → v = false := fun h => by
    cases v with
    | false => rfl
    | true => exact absurd (HV.out.1 rfl) h
  clear hv
  go_enter Try.func101, Try.ntmps101
  go_upto_region 1 with fail
  rw [← hw1, ← HXX.out, heY, ← hw2]
  clear hw1 HXX hw2 HXY heY
  obtain ⟨x0, x1, x2⟩ := row3v HX2.out
  obtain ⟨y0, y1⟩ := row2v HY2.out
  by_cases h1 : xn = dn
  · by_cases h2 : dc < 1
    · have hv : v = false := no (fun h => by omega)
      subst hv
      clear no
      go_wp2_with fail
      go_ret
      exact ⟨rfl, HA2.out⟩
    · by_cases h3 : dc ≤ xb
      · have hv : v = true := HV.out.2 ⟨h1, by omega, by unfold dot; simp [h3]⟩
        subst hv
        clear no
        go_wp2_with fail
        go_ret
        exact ⟨rfl, HA2.out⟩
      · obtain ⟨i, hi⟩ := Int.eq_ofNat_of_zero_le (show 0 ≤ dc - xb - 1 by omega)
        have hw1 : IntKind.i64.wrap (dc - xb) = dc - xb := by rw [IntKind.wrap_i64]; omega
        have hw2 : IntKind.i64.wrap (dc - xb - 1) = (i : Int) := by rw [IntKind.wrap_i64]; omega
        have hwi : IntKind.u64.wrap (i : Int) = (i : Int) := by rw [IntKind.wrap_u64]; omega
        have HD : Hid (dot (⟨xn, xb, xt⟩ : S) dc = xt.testBit i) := by
          unfold Hid dot
          dsimp only
          rw [decide_eq_false h3, Bool.false_or, hi, Int.toNat_natCast]
        have HVV : Hid (v = xt.testBit i) := by
          unfold Hid
          cases hb : xt.testBit i with
          | true => exact HV.out.2 ⟨h1, by omega, by rw [HD.out, hb]⟩
          | false => exact no (fun h => by have := h.2.2; rw [HD.out, hb] at this; cases this)
        have h64 : 64 ≤ i → xt.testBit i = false := fun h => Nat.testBit_lt_two_pow (Nat.lt_of_lt_of_le ht (Nat.pow_le_pow_right (by omega) h))
        clear hi no
        by_cases h4 : i < 64
        · have h4i : (i : Int) < 64 := by omega
          have hbit := bit1 xt i ht
          rw [← HVV.out] at hbit
          clear h64
          go_wp2_with fail
          go_ret
          exact ⟨rfl, HA2.out⟩
        · have h4i : ¬ (i : Int) < 64 := by omega
          have hv : v = false := by rw [HVV.out]; exact h64 (by omega)
          subst hv
          clear h64 HVV
          go_wp2_with fail
          go_ret
          exact ⟨rfl, HA2.out⟩
  · have hv : v = false := no (fun h => h1 h.1)
    subst hv
    clear no
    go_wp2_with fail
    go_ret
    exact ⟨rfl, HA2.out⟩
end Go.Proofs.Ytllhmidpphlbhaa.ds
namespace Go.Proofs.Ytllhmidpphlbhaa.ds
open Go.ChangeShapes Go.WideShapes Go.ChangeAt Go.RowKit Go.Sort
set_option linter.unusedVariables false
set_option linter.unusedSimpArgs false

theorem bit0 (t : Nat) (ht : t < 2 ^ 64) : (bits BinOp.and IntKind.u64 (t : Int) 1 == 0) = decide (t % 2 = 0) := by
  have e : bits BinOp.and IntKind.u64 ((t : Nat) : Int) 1 = _ := and_nat t 1 (by omega) (by omega)
  rw [e, Nat.and_one_is_mod]
  by_cases h : t % 2 = 0
  · rw [h]; rfl
  · have : t % 2 = 1 := by omega
    rw [this]; rfl
set_option maxHeartbeats 4000000 in
set_option maxRecDepth 100000 in
theorem rwhole_ok (w : World) (x : S) (ht : x.t < 2 ^ 64) (v : Bool) (hv : v = true ↔ Ok 64 x) : Calls Try.prog 100 #[.agg #[.int .i64 x.n, .int .i64 x.b, .int .u64 (x.t : Int)]] w fun e w' => e = .returned (.bool v) ∧ Apart [] w w' := by
  obtain ⟨xn, xb, xt⟩ := x
  have HV := hid hv
  have HBL : Hid (bl xt ≤ 64) := bl_le.2 ht
  dsimp only at ht
  obtain ⟨X, HXX⟩ : ∃ X, Hid (X = w.heap.size) := ⟨_, rfl⟩
  obtain ⟨w1, hw1⟩ : ∃ W, W = w.alloc (.cells #[.int .i64 xn, .int .i64 xb, .int .u64 (xt : Int)] 85) := ⟨_, rfl⟩
  have HX1 : Hid (w1.heap[X]? = some (.cells #[.int .i64 xn, .int .i64 xb, .int .u64 (xt : Int)] 85 (0, 0))) := by unfold Hid; rw [HXX.out, hw1]; exact heap_alloc_new w _
  have HA1 : Hid (Apart [] w w1) := by unfold Hid; rw [hw1]; exact (Apart.refl [] w).alloc _
  have no : (Ok 64 (⟨xn, xb, xt⟩ : S) → False) → v = false := fun h => by
    cases v with
    | false => rfl
    | true => exact absurd (HV.out.1 rfl) h
  clear hv
  go_enter Try.func100, Try.ntmps100
  go_upto_region 1 with fail
  rw [← hw1, ← HXX.out]
  clear hw1 HXX
  obtain ⟨x0, x1, x2⟩ := row3v HX1.out
  by_cases h1 : xn < 0
  · have h1' : xn < 0 := h1
    have hv : v = false := no (fun h => by have := h.n0; dsimp only at this; omega)
    subst hv
    clear no
    go_wp2_with fail
    go_ret
    exact ⟨rfl, HA1.out⟩
  · by_cases h2 : xn ≥ 8
    · have h2' : xn ≥ 8 := h2
      have hv : v = false := no (fun h => by have := h.n8; dsimp only at this; omega)
      subst hv
      clear no
      go_wp2_with fail
      go_ret
      exact ⟨rfl, HA1.out⟩
    · by_cases h3 : xb < 0
      · have h3' : xb < 0 := h3
        have hv : v = false := no (fun h => by have := h.b0; dsimp only at this; omega)
        subst hv
        clear no
        go_wp2_with fail
        go_ret
        exact ⟨rfl, HA1.out⟩
      · by_cases h4 : xb > 1048576
        · have h4' : xb > 1048576 := h4
          have hv : v = false := no (fun h => by have := h.bM; dsimp only at this; omega)
          subst hv
          clear no
          go_wp2_with fail
          go_ret
          exact ⟨rfl, HA1.out⟩
        · have hb0 := bit0 xt ht
          by_cases h5 : xt % 2 = 0
          · rw [decide_eq_true h5] at hb0
            have HL := hid (rlast_ok w1 ⟨xn, xb, xt⟩ ht ⟨by dsimp only; omega, by dsimp only; omega⟩)
            dsimp only at HL
            obtain ⟨lb, Hlb⟩ : ∃ lb, Hid (lb = bl xt) := ⟨_, rfl⟩
            rw [← Hlb.out] at HL HBL
            by_cases h6 : xb > 0
            · by_cases h8 : xb + (lb : Int) ≤ 1048576
              · have hv : v = true := HV.out.2 ⟨by dsimp only; omega, by dsimp only; omega, by dsimp only; omega, by dsimp only; omega, by dsimp only; omega, h5, by dsimp only; rw [← Hlb.out]; have := HBL.out; omega, by dsimp only; rw [← Hlb.out]; exact h8⟩
                subst hv
                clear no
                go_wp2_with fail
                refine HL.out.mono ?_
                rintro _ w2 ⟨rfl, a2⟩
                have HA2 := hid (HA1.out.trans a2)
                clear a2 x0 x1 x2
                dsimp only
                go_wp2_with fail
                go_ret
                exact ⟨by first | rfl | (show Ending.returned (Value.bool _) = _; simp [h8]; done) | (show Ending.returned (Value.bool _) = _; simp [h8]; omega), HA2.out⟩
              · have hv : v = false := no (fun h => by have := h.mx; dsimp only at this; rw [← Hlb.out] at this; omega)
                subst hv
                clear no
                go_wp2_with fail
                refine HL.out.mono ?_
                rintro _ w2 ⟨rfl, a2⟩
                have HA2 := hid (HA1.out.trans a2)
                clear a2 x0 x1 x2
                dsimp only
                go_wp2_with fail
                go_ret
                exact ⟨by first | rfl | (show Ending.returned (Value.bool _) = _; simp [h8]; done) | (show Ending.returned (Value.bool _) = _; simp [h8]; omega), HA2.out⟩
            · by_cases h7 : xt = 0
              · have hv : v = false := no (fun h => by have := h.ne; dsimp only at this; omega)
                have h7i : (xt : Int) = 0 := by omega
                subst hv
                clear no
                go_wp2_with fail
                go_ret
                exact ⟨rfl, HA1.out⟩
              · have h7i : ¬ (xt : Int) = 0 := by omega
                by_cases h8 : xb + (lb : Int) ≤ 1048576
                · have hv : v = true := HV.out.2 ⟨by dsimp only; omega, by dsimp only; omega, by dsimp only; omega, by dsimp only; omega, by dsimp only; omega, h5, by dsimp only; rw [← Hlb.out]; have := HBL.out; omega, by dsimp only; rw [← Hlb.out]; exact h8⟩
                  subst hv
                  clear no
                  go_wp2_with fail
                  refine HL.out.mono ?_
                  rintro _ w2 ⟨rfl, a2⟩
                  have HA2 := hid (HA1.out.trans a2)
                  clear a2 x0 x1 x2
                  dsimp only
                  go_wp2_with fail
                  go_ret
                  exact ⟨by first | rfl | (show Ending.returned (Value.bool _) = _; simp [h8]; done) | (show Ending.returned (Value.bool _) = _; simp [h8]; omega), HA2.out⟩
                · have hv : v = false := no (fun h => by have := h.mx; dsimp only at this; rw [← Hlb.out] at this; omega)
                  subst hv
                  clear no
                  go_wp2_with fail
                  refine HL.out.mono ?_
                  rintro _ w2 ⟨rfl, a2⟩
                  have HA2 := hid (HA1.out.trans a2)
                  clear a2 x0 x1 x2
                  dsimp only
                  go_wp2_with fail
                  go_ret
                  exact ⟨by first | rfl | (show Ending.returned (Value.bool _) = _; simp [h8]; done) | (show Ending.returned (Value.bool _) = _; simp [h8]; omega), HA2.out⟩
          · rw [decide_eq_false h5] at hb0
            have hv : v = false := no (fun h => h5 h.ev)
            subst hv
            clear no
            go_wp2_with fail
            go_ret
            exact ⟨rfl, HA1.out⟩
end Go.Proofs.Ytllhmidpphlbhaa.ds
namespace Go.Proofs.Ytllhmidpphlbhaa.ds
open Go.ChangeShapes Go.WideShapes Go.ChangeAt Go.RowKit Go.Sort
set_option linter.unusedVariables false
set_option linter.unusedSimpArgs false
/-- what is left of a region -/
def rest2 (n : Nat) (T : List Oper) : List Oper := T
theorem wpList_cutat {P : Program} {ops : Array Oper} {Q : Exit → Act → World → Prop} {a : Act} {w : World} {l : List Oper} (n : Nat) (J : Act → World → Prop) (hb : ∀ T, (∀ a' w', J a' w' → wpList P ops Q (rest2 n T) a' w') → wpList P ops Q (l.take n ++ rest2 n T) a w) (hn : ∀ a' w', J a' w' → wpList P ops Q (l.drop n) a' w') : wpList P ops Q l a w := by
  have h1 : wpList P ops Q (l.take n ++ l.drop n) a w := hb (l.drop n) hn
  rwa [List.take_append_drop] at h1

theorem size103 : (Try.prog.info? 103).map (·.size) = some 25 := by kernel_rfl
theorem isz {xs : List S} {m : Nat} (h : xs.length ≤ 8) : (Try.prog.info? 103).map (·.size) = some (setL xs m).toArray.size := by rw [size103, List.size_toArray, setL_len h]
theorem spansR_succ (B : List Nat) (dn dc m lo : Nat) (s : Ps) (hm : 0 < m) : spansR B dn dc m lo s = ((spanR B lo dn dc s).1 :: (spansR B dn dc (m - 1) ((spanR B lo dn dc s).1.n.toNat + 1) (spanR B lo dn dc s).2).1, (spansR B dn dc (m - 1) ((spanR B lo dn dc s).1.n.toNat + 1) (spanR B lo dn dc s).2).2) := by
  obtain ⟨k, rfl⟩ : ∃ k, m = k + 1 := ⟨m - 1, by omega⟩
  rfl
/-- the walk over a set's spans -/
structure SI (w wt : World) (R P o c : Nat) (B : List Nat) (dn dc m : Nat) (s1 : Ps) (X D Y : Nat) (i lo : Nat) (si : Ps) (xs : List S) : Prop where
  im : i ≤ m
  m8 : m ≤ 8
  xl : xs.length = i
  lo8 : lo ≤ 8
  r : PR wt R P o c B si
  a : Apart [R] w wt
  room : si.bad = false → si.at_ + 13 * (m - i) ≤ 2048
  e : spansR B dn dc m 0 s1 = (xs ++ (spansR B dn dc (m - i) lo si).1, (spansR B dn dc (m - i) lo si).2)
  bx : wt.heap[X]? = some (.cells #[.int .i64 (dn : Nat), .int .i64 (dc : Nat)] 47 (0, 0))
  bd : wt.heap[D]? = some (.cells (setL [] 0).toArray 103 (0, 0))
  by_ : wt.heap[Y]? = some (.cells (setL xs m).toArray 103 (0, 0))
theorem SI.step {w wt w1 : World} {R P o c : Nat} {B : List Nat} {dn dc m : Nat} {s1 : Ps} {X D Y : Nat} {i lo : Nat} {si : Ps} {xs : List S} (h : SI w wt R P o c B dn dc m s1 X D Y i lo si xs) (hi : i < m) (r : PR w1 R P o c B (spanR B lo dn dc si).2) (a : Apart [R] wt w1) (hX : X ≠ R) (hD : D ≠ R) (hY : Y ≠ R) (hXY : Y ≠ X) (hDY : Y ≠ D) (hP : P ≠ Y) (hw : w.heap.size ≤ Y) (z : World) (hz : z = w1.setCells Y (i * 3) [.int .i64 (spanR B lo dn dc si).1.n, .int .i64 (spanR B lo dn dc si).1.b, .int .u64 ((spanR B lo dn dc si).1.t : Int)]) : SI w z R P o c B dn dc m s1 X D Y (i + 1) ((spanR B lo dn dc si).1.n.toNat + 1) (spanR B lo dn dc si).2 (xs ++ [(spanR B lo dn dc si).1]) := by
  have b := apart_setCells (g := Y) (X := [Y]) [.int .i64 (spanR B lo dn dc si).1.n, .int .i64 (spanR B lo dn dc si).1.b, .int .u64 ((spanR B lo dn dc si).1.t : Int)] (i * 3) w1 (Apart.refl _ _) (.inl (by simp))
  rw [← hz] at b
  have hn := spanR_n B lo dn dc si
  have hat := spanR_at B lo dn dc si
  have hm8 := h.m8
  refine ⟨by omega, h.m8, by rw [List.length_append, h.xl]; rfl, by omega, r.kept b (by simp; exact fun e => hY e.symm) (by simp; exact hP), ?_, fun hb => ?_, ?_, ?_, ?_, ?_⟩
  · exact (h.a.trans a).trans' b (by intro y hy; simp at hy; rw [hy]; exact .inr hw)
  · have : si.bad = false := by
      cases hx : si.bad with
      | false => rfl
      | true => rw [spanR_bad B lo dn dc hx] at hb; rw [hx] at hb; cases hb
    have := h.room this
    omega
  · rw [h.e, spansR_succ B dn dc (m - i) lo si (by omega), show m - (i + 1) = m - i - 1 from by omega]
    simp
  · exact keepB b (keepB a h.bx hX) (fun e => hXY e.symm)
  · exact keepB b (keepB a h.bd hD) (fun e => hDY e.symm)
  · have h1 := heap_setCells_same [.int .i64 (spanR B lo dn dc si).1.n, .int .i64 (spanR B lo dn dc si).1.b, .int .u64 ((spanR B lo dn dc si).1.t : Int)] (i * 3) w1 _ (keepB a h.by_ hY)
    rw [← h.xl, setL_put _ (by rw [h.xl]; omega)] at h1
    rw [hz, ← h.xl]; exact h1
theorem g_at {xs : List S} {x : S} {i : Nat} (h : xs.length = i) : g (xs ++ [x] ++ List.replicate (8 - (xs ++ [x]).length) zS) i = x := by
  subst h
  unfold g
  rw [List.append_assoc, List.getD_eq_getElem?_getD, List.getElem?_append_right (Nat.le_refl _), Nat.sub_self]; rfl
set_option maxHeartbeats 8000000 in
set_option maxRecDepth 100000 in
theorem set_ok {w : World} {R P o c : Nat} {B : List Nat} {s : Ps} (h : PR w R P o c B s) (dn dc : Nat) (hr : s.bad = false → s.at_ + 105 ≤ 2048) (hn : dn ≤ 7) (hc : dc ≤ 1048576) :
    Calls Try.prog 73 #[.pointer (some ⟨R, 0, none⟩), .agg #[.int .i64 (dn : Nat), .int .i64 (dc : Nat)]] w fun e w' => PO w w' R P o c B e (.agg (setL (setR B dn dc s).1 (setR B dn dc s).1.length).toArray) (setR B dn dc s).2 := by
  have HR := hid h
  have HA : Hid (Apart [R] w w) := Apart.refl _ _
  have HNC : Hid (dn ≤ 7 ∧ dc ≤ 1048576) := ⟨hn, hc⟩
  obtain ⟨a, Ha⟩ : ∃ a, Hid (a = num B 1 0 8 s) := ⟨_, rfl⟩
  have HAt : Hid (a.1 ≤ 8 ∧ (a.2.bad = false → a.2.at_ + 104 ≤ 2048)) := by
    unfold Hid
    have h1 := num_at B 1 0 8 s
    have h2 := num_le B 1 0 8 s
    have h3 := @num_ok1 B 1 0 8 s
    rw [← Ha.out] at h1 h2 h3
    exact ⟨h2, fun hb => by have := hr (h3 hb); omega⟩
  have HE : Hid (setR B dn dc s = spansR B dn dc a.1 0 a.2) := by unfold Hid setR; rw [← Ha.out]
  have HC1 := fun W (hW : PR W R P o c B s) => hid (number_ok hW 1 0 8 ⟨by omega, by omega⟩ (fun hb => by have := hr hb; omega) (by omega) (by omega))
  rw [← Ha.out] at HC1
  clear h hr hn hc
  obtain ⟨m, s1⟩ := a
  dsimp only at HC1 HE HAt
  obtain ⟨X, HXX⟩ : ∃ X, Hid (X = w.heap.size) := ⟨_, rfl⟩
  obtain ⟨w1, hw1⟩ : ∃ W, W = w.alloc (.cells #[.int .i64 (dn : Nat), .int .i64 (dc : Nat)] 47) := ⟨_, rfl⟩
  have HSw1 : Hid (Apart [] w w1) := by unfold Hid; rw [hw1]; exact (Apart.refl [] w).alloc _
  have HBX : Hid (w1.heap[X]? = some (.cells #[.int .i64 (dn : Nat), .int .i64 (dc : Nat)] 47 (0, 0))) := by unfold Hid; rw [HXX.out, hw1]; exact heap_alloc_new w _
  have HNX_R : Hid (X ≠ R) := by unfold Hid; have := lt_of_heap HR.out.blk; rw [HXX.out]; omega
  have HNX_P : Hid (P ≠ X) := by unfold Hid; have := HR.out.lt; rw [HXX.out]; omega
  have HLX : Hid (w.heap.size ≤ X) := by unfold Hid; rw [HXX.out]; exact HA.out.size
  replace HR := hid (HR.out.kept0 HSw1.out)
  replace HA := hid (HA.out.trans (HSw1.out.mono (by simp)))
  obtain ⟨D, HXD⟩ : ∃ X, Hid (X = w1.heap.size) := ⟨_, rfl⟩
  obtain ⟨w2, hw2⟩ : ∃ W, W = w1.alloc (.cells #[.int .i64 0, .int .i64 0, .int .u64 0, .int .i64 0, .int .i64 0, .int .u64 0, .int .i64 0, .int .i64 0, .int .u64 0, .int .i64 0, .int .i64 0, .int .u64 0, .int .i64 0, .int .i64 0, .int .u64 0, .int .i64 0, .int .i64 0, .int .u64 0, .int .i64 0, .int .i64 0, .int .u64 0, .int .i64 0, .int .i64 0, .int .u64 0, .int .i64 0] 103) := ⟨_, rfl⟩
  have HSw2 : Hid (Apart [] w1 w2) := by unfold Hid; rw [hw2]; exact (Apart.refl [] w1).alloc _
  have HBD : Hid (w2.heap[D]? = some (.cells #[.int .i64 0, .int .i64 0, .int .u64 0, .int .i64 0, .int .i64 0, .int .u64 0, .int .i64 0, .int .i64 0, .int .u64 0, .int .i64 0, .int .i64 0, .int .u64 0, .int .i64 0, .int .i64 0, .int .u64 0, .int .i64 0, .int .i64 0, .int .u64 0, .int .i64 0, .int .i64 0, .int .u64 0, .int .i64 0, .int .i64 0, .int .u64 0, .int .i64 0] 103 (0, 0))) := by unfold Hid; rw [HXD.out, hw2]; exact heap_alloc_new w1 _
  have HND_R : Hid (D ≠ R) := by unfold Hid; have := lt_of_heap HR.out.blk; rw [HXD.out]; omega
  have HND_P : Hid (P ≠ D) := by unfold Hid; have := HR.out.lt; rw [HXD.out]; omega
  have HND_X : Hid (D ≠ X) := by unfold Hid; have := lt_of_heap HBX.out; rw [HXD.out]; omega
  have HLD : Hid (w.heap.size ≤ D) := by unfold Hid; rw [HXD.out]; exact HA.out.size
  replace HR := hid (HR.out.kept0 HSw2.out)
  replace HA := hid (HA.out.trans (HSw2.out.mono (by simp)))
  replace HBX := hid (keep0 HSw2.out HBX.out)
  have heD : X + 1 = D := by rw [HXD.out, hw1, HXX.out]; exact (Array.size_push _).symm
  go_enter Try.func73, Try.ntmps73
  go_wp2_with fail
  rw [← hw1, ← HXX.out, ← hw2, heD]
  clear hw1 HXX hw2 HXD heD
  refine ((HC1 _ HR.out).out).mono ?_
  rintro _ w3 ⟨rfl, rw3, aw3⟩
  have HSw3 := hid aw3
  replace HR := hid rw3
  replace HA := hid (HA.out.trans aw3)
  clear rw3 aw3
  replace HBX := hid (keepB HSw3.out HBX.out HNX_R.out)
  replace HBD := hid (keepB HSw3.out HBD.out HND_R.out)
  dsimp only
  clear HC1
  obtain ⟨Y, HXY⟩ : ∃ X, Hid (X = w3.heap.size) := ⟨_, rfl⟩
  obtain ⟨w4, hw4⟩ : ∃ W, W = w3.alloc (.cells #[.int .i64 0, .int .i64 0, .int .u64 0, .int .i64 0, .int .i64 0, .int .u64 0, .int .i64 0, .int .i64 0, .int .u64 0, .int .i64 0, .int .i64 0, .int .u64 0, .int .i64 0, .int .i64 0, .int .u64 0, .int .i64 0, .int .i64 0, .int .u64 0, .int .i64 0, .int .i64 0, .int .u64 0, .int .i64 0, .int .i64 0, .int .u64 0, .int .i64 0] 103) := ⟨_, rfl⟩
  have HSw4 : Hid (Apart [] w3 w4) := by unfold Hid; rw [hw4]; exact (Apart.refl [] w3).alloc _
  have HBY : Hid (w4.heap[Y]? = some (.cells #[.int .i64 0, .int .i64 0, .int .u64 0, .int .i64 0, .int .i64 0, .int .u64 0, .int .i64 0, .int .i64 0, .int .u64 0, .int .i64 0, .int .i64 0, .int .u64 0, .int .i64 0, .int .i64 0, .int .u64 0, .int .i64 0, .int .i64 0, .int .u64 0, .int .i64 0, .int .i64 0, .int .u64 0, .int .i64 0, .int .i64 0, .int .u64 0, .int .i64 0] 103 (0, 0))) := by unfold Hid; rw [HXY.out, hw4]; exact heap_alloc_new w3 _
  have HNY_R : Hid (Y ≠ R) := by unfold Hid; have := lt_of_heap HR.out.blk; rw [HXY.out]; omega
  have HNY_P : Hid (P ≠ Y) := by unfold Hid; have := HR.out.lt; rw [HXY.out]; omega
  have HNY_X : Hid (Y ≠ X) := by unfold Hid; have := lt_of_heap HBX.out; rw [HXY.out]; omega
  have HNY_D : Hid (Y ≠ D) := by unfold Hid; have := lt_of_heap HBD.out; rw [HXY.out]; omega
  have HLY : Hid (w.heap.size ≤ Y) := by unfold Hid; rw [HXY.out]; exact HA.out.size
  replace HR := hid (HR.out.kept0 HSw4.out)
  replace HA := hid (HA.out.trans (HSw4.out.mono (by simp)))
  replace HBX := hid (keep0 HSw4.out HBX.out)
  replace HBD := hid (keep0 HSw4.out HBD.out)
  obtain ⟨w5, hw5⟩ : ∃ W, W = w4.setCells Y 0 (setL [] m).toArray.toList := ⟨_, rfl⟩
  have HSw5 : Hid (Apart [Y] w4 w5) := by unfold Hid; rw [hw5]; exact apart_setCells _ _ _ (Apart.refl _ _) (.inl (by simp))
  replace HBY : Hid (w5.heap[Y]? = some (.cells (setL [] m).toArray 103 (0, 0))) := by
    unfold Hid; rw [hw5]
    have := heap_setCells_same (setL [] m).toArray.toList 0 w4 _ HBY.out
    rw [spl_all (by rw [Array.length_toList, List.size_toArray, setL_len (by simp)]; rfl)] at this
    exact this
  replace HR := hid (HR.out.kept HSw5.out (by simp; exact HNY_R.out.symm) (by simp; exact HNY_P.out))
  replace HA := hid (HA.out.trans' HSw5.out (by intro y hy; simp at hy; rw [hy]; exact .inr HLY.out))
  replace HBX := hid (keepB HSw5.out HBX.out HNY_X.out.symm)
  replace HBD := hid (keepB HSw5.out HBD.out HNY_D.out.symm)
  have HT : Hid ((w3.alloc (.cells #[.int .i64 0, .int .i64 0, .int .u64 0, .int .i64 0, .int .i64 0, .int .u64 0, .int .i64 0, .int .i64 0, .int .u64 0, .int .i64 0, .int .i64 0, .int .u64 0, .int .i64 0, .int .i64 0, .int .u64 0, .int .i64 0, .int .i64 0, .int .u64 0, .int .i64 0, .int .i64 0, .int .u64 0, .int .i64 0, .int .i64 0, .int .u64 0, .int .i64 0] 103)).there w3.heap.size 0 (setL [] m).toArray.size) := there_of (heap_alloc_new w3 _) 0 _ (by rw [List.size_toArray, setL_len (by simp)]; exact Nat.le_refl _)
  have HI3 := hid (isz (xs := []) (m := m) (by simp))
  have HY3 : Hid ((Value.agg #[.int .i64 0, .int .i64 0, .int .u64 0, .int .i64 0, .int .i64 0, .int .u64 0, .int .i64 0, .int .i64 0, .int .u64 0, .int .i64 0, .int .i64 0, .int .u64 0, .int .i64 0, .int .i64 0, .int .u64 0, .int .i64 0, .int .i64 0, .int .u64 0, .int .i64 0, .int .i64 0, .int .u64 0, .int .i64 0, .int .i64 0, .int .u64 0, .int .i64 (m : Nat)] : Value) = .agg (setL [] m).toArray) := rfl
  rename_i K1 hK1
  refine hK1 _ _ ?_
  clear hK1
  refine wpList_cutat 2 (fun a' w' => Hid (wpList _ _ _ (List.drop 2 _) a' w')) (fun T hT => ?_) (fun _ _ h => h)
  dsimp only [List.take, List.cons_append, List.nil_append, List.append]
  go_wp2_with fail
  refine hT _ _ ?_
  clear hT T
  unfold Hid
  dsimp only [List.drop]
  refine wpList_store_mid rfl 103 (.tmp 5) (.tmp 10) rfl _ 0 (setL [] m).toArray rfl HY3.out HT.out HI3.out (setL_one _ _) ?_
  rw [← hw4, ← HXY.out, ← hw5]
  clear HT HI3 HY3 hw4 HXY hw5
  have HI : Hid (SI w w5 R P o c B dn dc m s1 X D Y 0 0 s1 []) := ⟨Nat.zero_le _, HAt.out.1, rfl, by omega, HR.out, HA.out, fun hb => by have := HAt.out.2 hb; have := HAt.out.1; omega, by simp, HBX.out, HBD.out, HBY.out⟩
  have zm : w5.cell? ⟨Y, 24, none⟩ = some (.int .i64 (m : Nat)) := by rw [cell_of_row _ _ _ _ _ _ HBY.out]; rfl
  clear HR HA HBX HBD HBY
  go_wp2_with fail
  clear zm
  go_loopw [6, 7, 13] (fun u _ v wt => ∃ (i lo : Nat) (si : Ps) (xs : List S), u = .int .i64 (lo : Nat) ∧ v = .int .i64 (i : Nat) ∧ SI w wt R P o c B dn dc m s1 X D Y i lo si xs) (fun _ _ v _ => m - (intOf v).toNat)
  case atStart => exact ⟨0, 0, s1, [], rfl, rfl, HI.out⟩
  case round =>
    obtain ⟨i, lo, si, xs, rfl, rfl, hI⟩ := hrel
    have HJ := hid hI
    have him := hI.im
    clear hI HI
    by_cases hlt : i < m
    · have hlti : ((i : Nat) : Int) < (m : Int) := by omega
      have HC := hid (span_ok HJ.out.r lo dn dc (fun hb => by have := HJ.out.room hb; omega) (by have := HJ.out.lo8; omega) HNC.out.1 HNC.out.2)
      have zx0 : wr.cell? ⟨X, 0, none⟩ = some (.int .i64 (dn : Nat)) := by rw [cell_of_row _ _ _ _ _ _ HJ.out.bx]; rfl
      have zx1 : wr.cell? ⟨X, 1, none⟩ = some (.int .i64 (dc : Nat)) := by rw [cell_of_row _ _ _ _ _ _ HJ.out.bx]; rfl
      go_wp2_with fail
      clear zx0 zx1
      refine HC.out.mono ?_
      rintro _ w9 ⟨rfl, r9, a9⟩
      have HS := fun z hz => hid (HJ.out.step hlt r9 a9 HNX_R.out HND_R.out HNY_R.out HNY_X.out HNY_D.out HNY_P.out HLY.out z hz)
      have HBY9 := hid (keepB a9 HJ.out.by_ HNY_R.out)
      have HN := hid (spanR_n B lo dn dc si)
      have hm8 := HJ.out.m8
      have hxl := HJ.out.xl
      clear r9 a9 HC
      dsimp only
      obtain ⟨x, Hx⟩ : ∃ x, Hid (x = spanR B lo dn dc si) := ⟨_, rfl⟩
      rw [← Hx.out] at HS HN ⊢
      obtain ⟨⟨xn, xb, xt⟩, s'⟩ := x
      dsimp only at HS HN ⊢
      have hi8 : ((i : Nat) : Int) < 8 := by omega
      rename_i K1 hK1
      refine hK1 _ _ ?_
      clear hK1
      refine wpList_cutat 2 (fun a' w' => Hid (wpList _ _ _ (List.drop 2 _) a' w')) (fun T hT => ?_) (fun _ _ h => h)
      dsimp only [List.take, List.cons_append, List.nil_append, List.append]
      go_wp2_with fail
      refine hT _ _ ?_
      clear hT T
      unfold Hid
      dsimp only [List.drop]
      refine wpList_store_mid rfl 85 (.tmp 22) (.tmp 20) rfl Y (i * 3) #[.int .i64 xn, .int .i64 xb, .int .u64 (xt : Int)] rfl rfl (there_of HBY9.out _ _ (by show i * 3 + 3 ≤ (setL xs m).toArray.size; rw [List.size_toArray, setL_len (by omega)]; omega)) size52 (by simp [Value.oneCell']) ?_
      obtain ⟨z, hz⟩ : ∃ z, z = w9.setCells Y (i * 3) [.int .i64 xn, .int .i64 xb, .int .u64 (xt : Int)] := ⟨_, rfl⟩
      rw [show (#[Value.int .i64 xn, .int .i64 xb, .int .u64 (xt : Int)] : Array Value).toList = [.int .i64 xn, .int .i64 xb, .int .u64 (xt : Int)] from rfl, ← hz]
      replace HS := HS z hz
      clear hz HBY9
      have zy : z.cell? ⟨Y, i * 3, none⟩ = some (.int .i64 xn) := by
        rw [cell_of_row _ _ _ _ _ _ HS.out.by_]
        have h1 := (setL_get (xs := xs ++ [⟨xn, xb, xt⟩]) (m := m) (i := i) (by omega) (by rw [List.length_append, hxl]; simp; omega)).1
        rw [g_at hxl] at h1
        simpa using h1
      obtain ⟨l2, Hl2⟩ : ∃ l2, Hid (l2 = xn.toNat + 1) := ⟨_, rfl⟩
      have hwx : IntKind.i64.wrap (xn + 1) = (l2 : Int) := by rw [IntKind.wrap_i64, Hl2.out]; have := HN.out; omega
      go_wp2_with fail
      go_roundw
      case rel => exact ⟨i + 1, xn.toNat + 1, s', xs ++ [⟨xn, xb, xt⟩], by rw [← Hl2.out], by go_num, HS.out⟩
      case measure => simp [intOf]; omega
    · have hlti : ¬ ((i : Nat) : Int) < (m : Int) := by omega
      have hime : i = m := by omega
      have HE2 : Hid (setR B dn dc s = (xs, si)) := by
        unfold Hid
        rw [HE.out, HJ.out.e, hime, Nat.sub_self]
        show (xs ++ [], si) = _
        rw [List.append_nil]
      have hm8 := HJ.out.m8
      have hxl := HJ.out.xl
      obtain ⟨z, hz⟩ : ∃ z, z = wr.setCells D 0 (setL xs m).toArray.toList := ⟨_, rfl⟩
      have b : Apart [D] wr z := by rw [hz]; exact apart_setCells _ _ _ (Apart.refl _ _) (.inl (by simp))
      have HRz := hid (HJ.out.r.kept b (by simp; exact HND_R.out.symm) (by simp; exact HND_P.out))
      have HAz := hid (HJ.out.a.trans' b (by intro y hy; simp at hy; rw [hy]; exact .inr HLD.out))
      have HBz : Hid (z.heap[D]? = some (.cells (setL xs m).toArray 103 (0, 0))) := by
        unfold Hid; rw [hz]
        have := heap_setCells_same (setL xs m).toArray.toList 0 wr _ HJ.out.bd
        rw [spl_all (by rw [Array.length_toList, List.size_toArray, List.size_toArray, setL_len (by omega), setL_len (by simp)])] at this
        exact this
      have HTH := hid (there_of HJ.out.bd 0 (setL xs m).toArray.size (by rw [List.size_toArray, List.size_toArray, setL_len (by omega), setL_len (by simp)]; omega))
      have HRG := hid (range_of HJ.out.by_)
      have HI3 := hid (isz (xs := xs) (m := m) (by omega))
      have HI4 : Hid ((Try.prog.info? 103).map (·.size) = some (setL xs m).length) := by unfold Hid; rw [size103, setL_len (by omega)]
      clear b
      go_upto_region 9 with fail
      refine wp_region_list ?_
      dsimp only [Array.toList]
      refine wpList_load_mid rfl 103 (.tmp 5) rfl Y 0 rfl (setL xs m) _ HRG.out Try.underlying103 rfl HI4.out ?_
      refine wpList_store_mid rfl 103 (.tmp 4) (.tmp 30) rfl D 0 (setL xs m).toArray rfl rfl HTH.out HI3.out (setL_one _ _) ?_
      rw [← hz]
      clear hz HTH HRG HI3 HI4
      go_wp2_with fail
      refine bodyPost_ret (results_cell_row rfl _ _ D 103 _ _ _ rfl HBz.out Try.underlying103 rfl (isz (by omega))) rfl ?_
      rw [HE2.out]
      exact ⟨by rw [hxl, hime], HRz.out, HAz.out⟩
end Go.Proofs.Ytllhmidpphlbhaa.ds
