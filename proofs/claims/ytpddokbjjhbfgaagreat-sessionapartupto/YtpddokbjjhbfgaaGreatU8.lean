import Derived.Test.YtpddokbjjhbfgaaGreatChecked
import Derived.WalkKit
import Derived.ProofKit
import Derived.Maps.OwnSet
import Derived.Maps.RangeWalk
import Derived.DeepKeys4
import Derived.MapViews
import Derived.StringKeys
import Derived.Lib.TrailingZeros
import Derived.OpenShut
import Derived.Deep.QuietTactic
import Derived.BigQuiet
import Derived.BigRegion
import Derived.Laws.CopyOwn
import Derived.Laws.Bits64b
import Derived.Laws.MathBits
import Derived.Laws.ShiftsVarLaws
import Derived.WalkSmall
import Derived.Laws.ResultCell
import Derived.Lib.BitFns
import Derived.Laws.StructEq
import Derived.Deep.RegionHeld
import Derived.ArgAppend
import Derived.Deep.RegionLaw
import Derived.Deep.DeepAppendRoom
import Derived.Sort.WalkA
import Derived.Laws.Strings
import Derived.Deep.CutBlock
import Derived.Great.BuildSlice
import Derived.Laws.BytesString
import Derived.Laws.AppendOwnNone
import Derived.Lib.Overlaps
import Derived.Lib.AppendZerosOnto
import Derived.Laws.NewBlocks
import Derived.Laws.Externs
import Derived.Laws.IdiomCopy
import Derived.RangeFuncNested
import Derived.RangeFuncBound
import Derived.RangeFuncCalls
import Derived.RangeFuncLeaves
import Derived.Shelf.Abstract
import Derived.Shelf.RegionOpen
import Derived.OwnWalkIn
import Derived.TacticsInMore
import Derived.LoopNIn
import Derived.LoopIn
import Derived.Deep.CutRange
import Derived.Deep.OwnRows
import Derived.Lib.Walk
import Derived.Lib.SliceRun
import GoSem.Claim
import GoSem.ClaimJoined
import GoSem.ClaimMapViews
import Derived.JoinedTies
import Derived.KernelRfl
import Derived.Lib.LaidTab
import Derived.JoinedCond
import Derived.ShutString
import Derived.ChangeOld
import Derived.Below
import Derived.Carry
import Derived.ChangeSlices
import Derived.Deep.Slices
import Derived.Deep.DeepHandedRow
import Derived.RowKit
import Derived.ChangeShapes
import Derived.SizedLaws
import Derived.ChangeMaps5
import Derived.OrdersHeld
import Derived.Lib.AppendStr
import Derived.Lib.ConvBytes
import Derived.Deep.RegionHeld3
import Derived.Deep.MidRow
import Derived.Laws.BitsAllLaws
import Derived.Sort.Grow
import Derived.Shelf.SlSortCmp.WholeK
import Derived.Shelf.Lay
import Derived.Ground.SlsfProg
import Derived.Sort.LotA
import Derived.Sort.MapsRangeIn
import Derived.RangeFuncSeq
import Derived.RangeFuncKeeps
import Derived.Maps.AppendAt
import Derived.OwnWalk
import Derived.Test.YtpddokbjjhbfgaaGreatRows
import Derived.Test.YtpddokbjjhbfgaaGreatU6
namespace Go.Proofs.YtpddokbjjhbfgaaGreat.ds
open Go.ChangeShapes Go.WideShapes Go.ChangeAt Go.RowKit
set_option linter.unusedVariables false
/-- bit i may be set -/
def Bok (gap b : Int) (t i : Nat) : Prop := t.testBit i = true → i ≠ 0 ∧ (i : Int) < gap ∧ b + 1 + i ≤ 1048576
theorem bits_iff {gap b : Int} {t : Nat} (ht : t < 2 ^ 64) (hg : 1 ≤ gap) (hb : b ≤ 1048576) : (∀ i, i < 64 → Bok gap b t i) ↔ (t % 2 = 0 ∧ (bl t : Int) ≤ gap ∧ b + bl t ≤ 1048576) := by
  constructor
  · intro h
    have h' : ∀ i, t.testBit i = true → i ≠ 0 ∧ (i : Int) < gap ∧ b + 1 + i ≤ 1048576 := by
      intro i hi
      by_cases h64 : i < 64
      · exact h i h64 hi
      · rw [Nat.testBit_lt_two_pow (Nat.lt_of_lt_of_le ht (Nat.pow_le_pow_right (by omega) (by omega)))] at hi; cases hi
    refine ⟨?_, ?_, ?_⟩
    · rw [ev_bit]
      cases h0 : t.testBit 0
      · rfl
      · exact absurd rfl (h' 0 h0).1
    · have := (bl_le' (t := t) (k := gap.toNat)).2 fun i hi => by
        cases h0 : t.testBit i
        · rfl
        · have := (h' i h0).2.1; omega
      omega
    · have := (bl_le' (t := t) (k := (1048576 - b).toNat)).2 fun i hi => by
        cases h0 : t.testBit i
        · rfl
        · have := (h' i h0).2.2; omega
      omega
  · rintro ⟨h1, h2, h3⟩ i hi hb1
    have hlt : i < bl t := by
      by_cases hc : i < bl t
      · exact hc
      · have := (bl_le' (t := t) (k := bl t)).1 (Nat.le_refl _) i (by omega)
        rw [this] at hb1; cases hb1
    refine ⟨?_, by omega, by omega⟩
    rintro rfl
    rw [ev_bit.1 h1] at hb1; cases hb1
/-- the last node so far -/
def lastn (xs : List S) (k : Nat) : Int := if k = 0 then -1 else (g xs (k - 1)).n
theorem lastn_ge {gap : Int} {xs : List S} {k : Nat} (h : Pre gap xs k) : -1 ≤ lastn xs k := by
  unfold lastn
  split
  · omega
  · have := (h (k - 1) (by omega)).1.n0; omega
set_option maxHeartbeats 40000000 in
set_option maxRecDepth 100000 in
theorem right_ok {p : Option Addr} {N cap : Nat} {xs : List S} {gap : Int} {w : World} (h : L w p N xs) (hg : 1 ≤ gap ∧ gap ≤ 64) : Calls Tryz.prog 116 #[.slice p N cap, .int .i64 gap] w fun r w' => Tells r (OkL gap xs) ∧ Apart [] w w' := by
  have hlim := h.lim
  have HO : Hid (OkL gap xs ↔ ∀ i, i < xs.length → Ok gap (g xs i) ∧ (0 < i → (g xs (i - 1)).n < (g xs i).n)) := okL_iff gap xs
  go_enter Tryz.func116, Tryz.ntmps116
  go_wp2_with fail
  go_loopw [5, 6] (fun l v wr => ∃ k : Nat, k ≤ N ∧ v = .int .i64 k ∧ l = .int .i64 (lastn xs k) ∧ Apart [] w wr ∧ Pre gap xs k) (fun _ v _ => N - (intOf v).toNat)
  case atStart => exact ⟨0, Nat.zero_le _, rfl, rfl, Apart.refl _ _, fun j hj => absurd hj (by omega)⟩
  case round =>
    obtain ⟨k, hk, rfl, rfl, aR, hno⟩ := hrel
    by_cases hlt : k < N
    · have HI : Hid (k < xs.length) := by show k < xs.length; rw [h.len]; omega
      obtain ⟨P, o, rfl, hP, hc⟩ := (h.kept0 aR).sp (by rw [h.len]; omega)
      obtain ⟨c0, c1, c2⟩ := hc k HI.out
      have hxt := h.fit _ (g_mem HI.out)
      obtain ⟨⟨xn, xb, xt⟩, HX⟩ : ∃ x, Hid (x = g xs k) := ⟨_, rfl⟩
      rw [← HX.out] at c0 c1 c2 hxt
      simp only at c0 c1 c2 hxt
      obtain ⟨ln, HL⟩ : ∃ l, Hid (l = lastn xs k) := ⟨_, rfl⟩
      have hln := lastn_ge hno
      rw [← HL.out] at hln ⊢
      clear hc
      have HQ : Hid (Ok gap ⟨xn, xb, xt⟩ ∧ ln < xn ↔ Ok gap (g xs k) ∧ (0 < k → (g xs (k - 1)).n < (g xs k).n)) := by
        show Ok gap ⟨xn, xb, xt⟩ ∧ ln < xn ↔ Ok gap (g xs k) ∧ (0 < k → (g xs (k - 1)).n < (g xs k).n)
        rw [← HX.out]
        rw [HL.out]
        unfold lastn
        by_cases hk0 : k = 0
        · subst hk0
          simp only [if_pos]
          exact ⟨fun h => ⟨h.1, fun h => absurd h (by omega)⟩, fun h => ⟨h.1, by have := h.1.n0; simp only at this; omega⟩⟩
        · rw [if_neg hk0]
          exact ⟨fun h => ⟨h.1, fun _ => h.2⟩, fun h => ⟨h.1, h.2 (by omega)⟩⟩
      have HB : Hid (¬ (Ok gap ⟨xn, xb, xt⟩ ∧ ln < xn) → ¬ OkL gap xs) := fun hn hk => hn (HQ.out.2 (HO.out.1 hk k HI.out))
      have aX : Apart [] wr (wr.alloc (.cells #[.int .i64 xn, .int .i64 xb, .int .u64 xt] 94)) := (Apart.refl _ _).alloc _
      have a1 := aR.trans aX
      by_cases e1 : xn ≤ ln
      · have E1 : Hid (xn ≤ ln) := e1
        go_wp2
        go_ret
        exact ⟨.no (HB.out fun h => by have := h.2; have := E1.out; omega), a1⟩
      · have e1' : ln < xn := by omega
        by_cases e2 : 8 ≤ xn
        · have E2 : Hid (8 ≤ xn) := e2
          go_wp2
          go_ret
          exact ⟨.no (HB.out fun h => by have := h.1.n8; simp only at this; have := E2.out; omega), a1⟩
        · by_cases e3 : xb < 0
          · have E3 : Hid (xb < 0) := e3
            go_wp2
            go_ret
            exact ⟨.no (HB.out fun h => by have := h.1.b0; simp only at this; have := E3.out; omega), a1⟩
          · by_cases e4 : 1048576 < xb
            · have E4 : Hid (1048576 < xb) := e4
              go_wp2
              go_ret
              exact ⟨.no (HB.out fun h => by have := h.1.bM; simp only at this; have := E4.out; omega), a1⟩
            · by_cases e5 : xb = 0 ∧ xt = 0
              · obtain ⟨rfl, rfl⟩ := e5
                go_wp2
                go_ret
                exact ⟨.no (HB.out fun h => h.1.ne ⟨rfl, rfl⟩), a1⟩
              · have HR : Hid (Ok gap ⟨xn, xb, xt⟩ ↔ ∀ i, i < 64 → Bok gap xb xt i) := by
                  show Ok gap ⟨xn, xb, xt⟩ ↔ ∀ i, i < 64 → Bok gap xb xt i
                  rw [bits_iff hxt hg.1 (by omega)]
                  exact ⟨fun h => ⟨h.ev, h.gp, h.mx⟩, fun h => ⟨by show 0 ≤ xn; omega, by show xn < 8; omega, by show 0 ≤ xb; omega, by show xb ≤ 1048576; omega, e5, h.1, h.2.1, h.2.2⟩⟩
                have E5 : Hid (¬ (xb = 0 ∧ xt = 0)) := e5
                have H1 : Hid (ln < xn) := e1'
                have bX := new1 wr #[.int .i64 xn, .int .i64 xb, .int .u64 xt] 94
                have hb0 : 0 ≤ xb := by omega
                have hb1 : xb ≤ 1048576 := by omega
                obtain ⟨z6, H6⟩ : ∃ z : Bool, Hid (z = (xb == 0)) := ⟨_, rfl⟩
                have e7 : z6 = true → ((xt : Int) == 0) = false := fun hz => by
                  have hxb : xb = 0 := by rw [H6.out] at hz; simpa using hz
                  have := E5.out; simp; omega
                have e6 : (xb == 0) = z6 := H6.out.symm
                cases z6
                all_goals
                  first
                  | (have e8 := e7 rfl; clear e7)
                  | clear e7
                  go_wp2_with fail
                  generalize wr.alloc (.cells #[.int .i64 xn, .int .i64 xb, .int .u64 xt] 94) = V at *
                  have rX : ∀ W, Apart [] V W → W.heap[wr.heap.size]? = some (.cells #[.int .i64 xn, .int .i64 xb, .int .u64 xt] 94 (0, 0)) := fun W a => (a.block _ (lt_of_heap bX) (by simp)).trans bX
                  go_loopw [8] (fun v wq => ∃ i : Nat, i ≤ 64 ∧ v = .int .i64 i ∧ Apart [] V wq ∧ (∀ j, j < i → Bok gap xb xt j)) (fun v _ => 64 - (intOf v).toNat)
                  case atStart => exact ⟨0, Nat.zero_le _, rfl, Apart.refl _ _, fun j hj => absurd hj (by omega)⟩
                  case round =>
                    obtain ⟨i, hi, rfl, aQ, hbk⟩ := hrel
                    by_cases hi64 : i < 64
                    · obtain ⟨⟨q0, q1, q2⟩, _⟩ := rowc (rX _ aQ)
                      have HT : Hid (Bok gap xb xt i ↔ (xt.testBit i = true → i ≠ 0 ∧ (i : Int) < gap ∧ xb + 1 + i ≤ 1048576)) := Iff.rfl
                      have h64 : (i : Int) < 64 := by omega
                      have hw1 : IntKind.i64.wrap (xb + 1) = xb + 1 := by rw [IntKind.wrap_i64]; omega
                      have hw2 : IntKind.i64.wrap (xb + 1 + (i : Int)) = xb + 1 + (i : Int) := by rw [IntKind.wrap_i64]; omega
                      have hbc := fun w => bit_ok xn xb xt i w hxt hi64
                      have next : Bok gap xb xt i → ∀ j, j < i + 1 → Bok gap xb xt j := fun hB j hj => by
                        by_cases hji : j = i
                        · subst hji; exact hB
                        · exact hbk j (by omega)
                      have bad : ¬ Bok gap xb xt i → ¬ OkL gap xs := fun hB => HB.out fun hh => hB (HR.out.1 hh.1 i hi64)
                      have Next : Hid (Bok gap xb xt i → ∀ j, j < i + 1 → Bok gap xb xt j) := next
                      have Bad : Hid (¬ Bok gap xb xt i → ¬ OkL gap xs) := bad
                      clear next bad
                      cases hbit : xt.testBit i
                      · have HF : Hid (xt.testBit i = false) := hbit
                        simp only [hbit] at hbc
                        clear hbit
                        go_wp2_with (go_at_call 129; refine (hbc _).mono ?_; rintro r w5 ⟨rfl, a5⟩)
                        go_roundw
                        case rel => exact ⟨i + 1, by omega, rfl, aQ.trans a5, Next.out (HT.out.2 fun ht => by rw [HF.out] at ht; cases ht)⟩
                        case measure => simp [intOf]; omega
                      · have HF : Hid (xt.testBit i = true) := hbit
                        simp only [hbit] at hbc
                        clear hbit
                        by_cases f1 : i = 0
                        · subst f1
                          go_wp2_with (go_at_call 129; refine (hbc _).mono ?_; rintro r w5 ⟨rfl, a5⟩)
                          go_ret
                          exact ⟨.no (Bad.out fun hB => (HT.out.1 hB HF.out).1 rfl), a1.trans (aQ.trans a5)⟩
                        · have F1 : Hid (i ≠ 0) := f1
                          have f1' : ((i : Int) == 0) = false := by simp; exact f1
                          by_cases f2 : (i : Int) < gap
                          · have F2 : Hid ((i : Int) < gap) := f2
                            have f2' : ¬ gap ≤ (i : Int) := by omega
                            by_cases f3 : xb + 1 + (i : Int) ≤ 1048576
                            · have F3 : Hid (xb + 1 + (i : Int) ≤ 1048576) := f3
                              go_wp2_with (go_at_call 129; refine (hbc _).mono ?_; rintro r w5 ⟨rfl, a5⟩; obtain ⟨⟨q5, q6, q7⟩, _⟩ := rowc (rX _ (aQ.trans a5)))
                              go_roundw
                              case rel => exact ⟨i + 1, by omega, rfl, aQ.trans a5, Next.out (HT.out.2 fun ht => ⟨F1.out, F2.out, F3.out⟩)⟩
                              case measure => simp [intOf]; omega
                            · have F3 : Hid (¬ xb + 1 + (i : Int) ≤ 1048576) := f3
                              go_wp2_with (go_at_call 129; refine (hbc _).mono ?_; rintro r w5 ⟨rfl, a5⟩; obtain ⟨⟨q5, q6, q7⟩, _⟩ := rowc (rX _ (aQ.trans a5)))
                              go_ret
                              refine ⟨.no (Bad.out fun hB => ?_), a1.trans (aQ.trans a5)⟩
                              have := (HT.out.1 hB HF.out).2.2
                              have := F3.out
                              omega
                          · have F2 : Hid (¬ (i : Int) < gap) := f2
                            have f2' : gap ≤ (i : Int) := by omega
                            go_wp2_with (go_at_call 129; refine (hbc _).mono ?_; rintro r w5 ⟨rfl, a5⟩)
                            go_ret
                            refine ⟨.no (Bad.out fun hB => ?_), a1.trans (aQ.trans a5)⟩
                            have := (HT.out.1 hB HF.out).2.1
                            have := F2.out
                            omega
                    · go_wp2
                      go_roundw
                      case rel =>
                        have hok := HQ.out.1 ⟨HR.out.2 fun i hi => hbk i (by omega), H1.out⟩
                        refine ⟨k + 1, by omega, rfl, ?_, a1.trans aQ, fun j hj => ?_⟩
                        · unfold lastn
                          rw [if_neg (by omega), Nat.add_sub_cancel, ← HX.out]
                        · by_cases hji : j = k
                          · subst hji; exact hok
                          · exact hno j (by omega)
                      case measure => simp [intOf]; omega
    · go_wp2
      go_ret
      refine ⟨.yes (HO.out.2 fun j hj => ?_), aR⟩
      exact hno j (by have := h.len; omega)
end Go.Proofs.YtpddokbjjhbfgaaGreat.ds

