import Derived.Test.YtdggkofihppcmaaDoorHold
import Derived.Test.YtdggkofihppcmaaDoorMis1
import Derived.Test.YtdggkofihppcmaaDoorBitsW
import Derived.RangeFuncNested
import Derived.RangeFuncBound
import Derived.RangeFuncCalls
import Derived.RangeFuncLeaves
import Derived.Shelf.Abstract
import Derived.Shelf.RegionOpen
import Derived.WalkKit
import Derived.OwnWalkIn
import Derived.TacticsInMore
import Derived.LoopNIn
import Derived.LoopIn
namespace Go.Proofs.YtdggkofihppcmaaDoor.ds
open Go.ChangeShapes Go.WideShapes Go.ChangeAt Go.RowKit Go.Shelf
set_option linter.unusedVariables false
set_option linter.unusedSimpArgs false
attribute [local go_sem] Oper.semAt_some
theorem hid {p : Prop} (h : p) : Hid p := h
structure Lt64 (t : Nat) : Prop where
  lt : t < 2 ^ 64
/-- a box that holds a span -/
structure Bsp (W : World) (B : Nat) (x : S) : Prop where
  c0 : W.cell? ⟨B, 0, none⟩ = some (.int .i64 x.n)
  c1 : W.cell? ⟨B, 1, none⟩ = some (.int .i64 x.b)
  c2 : W.cell? ⟨B, 2, none⟩ = some (.int .u64 (x.t : Int))
theorem Bsp.lt {W : World} {B : Nat} {x : S} (h : Bsp W B x) : B < W.heap.size := block_lt_of_cell h.c0
theorem Bsp.same {W W' : World} {B : Nat} {x : S} (h : Bsp W B x) (e : W'.heap[B]? = W.heap[B]?) : Bsp W' B x :=
  ⟨(World.cell?_of_block (a := ⟨B, 0, none⟩) e).trans h.c0, (World.cell?_of_block (a := ⟨B, 1, none⟩) e).trans h.c1, (World.cell?_of_block (a := ⟨B, 2, none⟩) e).trans h.c2⟩
theorem Bsp.kept {W W' : World} {B : Nat} {x : S} (h : Bsp W B x) (a : Apart [] W W') : Bsp W' B x := h.same (a.block B h.lt (by simp))
theorem Apart.grown {W W' : World} (a : Apart [] W W') : W.grownBy W' none := ⟨a.os, a.tape, a.output, a.size, fun k hk _ => a.block k hk (by simp)⟩
set_option maxRecDepth 100000 in
set_option maxHeartbeats 4000000 in
theorem lack1_in (n : Nat) (hn : 2 ≤ n) (l By Bx : Nat) (x y : S) (hx : Wf x) (hy : Wf y) (hxb : x.b ≤ 1048576) (hyb : y.b ≤ 1048576) (J Jx : List Nat → World → Prop) (Kp : World → World → Prop)
    (hKp : ∀ A B, Kp A B → Tab A → Bsp A By y → Bsp A Bx x → Tab B ∧ Bsp B By y ∧ Bsp B Bx x) (hJ : ∀ pre A B, J pre A → Apart [] A B → J pre B)
    (hY : ∀ pre c W, J pre W → pre.length < (lack x y).length → YieldAt Fence.wide (n - 1) Tryd.prog l #[.int .i64 (c : Nat)] W fun e W' =>
      (e = .returned (.bool true) ∧ J (pre ++ [c]) W' ∧ Kp W W') ∨ (e = .returned (.bool false) ∧ Jx (pre ++ [c]) W'))
    (W : World) (T : Tab W) (b1 : Bsp W By y) (b2 : Bsp W Bx x) (h0 : J [] W) :
    CallsIn Fence.wide n Tryd.prog 73 #[.func (.yield l) #[] #[], .pointer (some ⟨By, 0, none⟩), .pointer (some ⟨Bx, 0, none⟩)] W fun e W' => (∃ v, e = .returned v) ∧
      ((∃ ys, ys = lack x y ∧ J ys W') ∨ (∃ pre, pre <+: lack x y ∧ Jx pre W')) := by
  refine callsIn_of_wp Tryd.func73 rfl trivial ?_ rfl
  simp only [Tryd.ntmps73, List.size_toArray, List.length_cons, List.length_nil, Nat.reduceAdd, Nat.reduceSub, Array.replicate_succ, Array.replicate_zero, List.push_toArray, List.append_toArray, List.nil_append, List.cons_append]
  have hyb0 := hy.b0
  have hxb0 := hx.b0
  obtain ⟨bX, hbX⟩ : ∃ bX : Nat, x.b = (bX : Int) := ⟨x.b.toNat, by omega⟩
  obtain ⟨bY, hbY⟩ : ∃ bY : Nat, y.b = (bY : Int) := ⟨y.b.toNat, by omega⟩
  have HbX : Hid (x.b = (bX : Int)) := hbX
  have HbY : Hid (y.b = (bY : Int)) := hbY
  have hX4 : bX ≤ 1048576 := by omega
  have hY4 : bY ≤ 1048576 := by omega
  have eX : Hid (x.b.toNat = bX) := by unfold Hid; omega
  obtain ⟨c0, c1, c2⟩ := b1
  obtain ⟨d0, d1, d2⟩ := b2
  have B1 : Hid (Bsp W By y) := ⟨c0, c1, c2⟩
  have B2 : Hid (Bsp W Bx x) := ⟨d0, d1, d2⟩
  have HT : Hid (Tab W) := T
  have H0 : Hid (J [] W) := h0
  have HJ : Hid (∀ pre A B, J pre A → Apart [] A B → J pre B) := hJ
  have HKp : Hid (∀ A B, Kp A B → Tab A → Bsp A By y → Bsp A Bx x → Tab B ∧ Bsp B By y ∧ Bsp B Bx x) := hKp
  have HY : Hid (∀ pre c W, J pre W → pre.length < (lack x y).length → YieldAt Fence.wide (n - 1) Tryd.prog l #[.int .i64 (c : Nat)] W fun e W' => (e = .returned (.bool true) ∧ J (pre ++ [c]) W' ∧ Kp W W') ∨ (e = .returned (.bool false) ∧ Jx (pre ++ [c]) W')) := hY
  rw [hbY] at c1
  rw [hbX] at d1
  clear hbX hbY hyb0 hxb0 T h0 hJ hKp hY hxb hyb
  gi_wp2
  gi_loopw [4] (fun v wr => ∃ c : Nat, v = .int .i64 c ∧ bY + 1 ≤ c ∧ (c ≤ bX + 1 ∨ c = bY + 1) ∧ Tab wr ∧ Bsp wr By y ∧ Bsp wr Bx x ∧ J (miss x y c) wr) (fun v _ => bX + 1 - (intOf v).toNat)
  case atStart =>
    refine ⟨bY + 1, by simp, Nat.le_refl _, .inr rfl, HT.out, B1.out, B2.out, ?_⟩
    rw [miss_low x y (bY + 1) (fun c h1 h2 => dot_low (by rw [HbY.out]; omega))]; exact H0.out
  case round =>
    clear c0 c1 c2 d0 d1 d2 B1 B2 HT H0
    obtain ⟨c, rfl, hc1, hc2, T, b1, b2, hJc⟩ := hrel
    have HT := hid T
    have HB1 := hid b1
    have HB2 := hid b2
    have HJc := hid hJc
    obtain ⟨c0, c1, c2⟩ := b1
    obtain ⟨d0, d1, d2⟩ := b2
    have d1' : wr.cell? ⟨Bx, 1, none⟩ = some (.int .i64 (bX : Nat)) := by rw [d1, HbX.out]
    clear d1 T hJc
    by_cases hlt : c ≤ bX
    · have hC := hid (holds_ok y (c : Nat) wr hy.b0 hy.lt (by omega))
      by_cases hd : dot y (c : Nat) = true
      · have HD := hid hd
        have hm : mis x y c = false := by rw [mis_low (by omega) (by rw [HbX.out]; omega), hd]; rfl
        have HM := hid hm
        clear hd hm
        gi_wp2
        refine ⟨trivial, (fun h => by cases h), ?_⟩
        refine (callsIn_wide.2 hC.out).mono ?_
        rintro e w2 ⟨rfl, a2⟩
        rw [HD.out]
        dsimp only
        have HA := hid a2
        clear a2 c0 c1 c2 d0 d1' d2
        gi_wp2
        refine ⟨fun _ h => (by cases h), ?_⟩
        gi_wp2
        go_roundw
        case rel =>
          refine ⟨c + 1, by go_num, by omega, .inl (by omega), HT.out.kept0 HA.out, HB1.out.kept HA.out, HB2.out.kept HA.out, ?_⟩
          rw [miss_skip HM.out]; exact HJ.out _ _ _ HJc.out HA.out
        case measure => simp only [intOf]; omega
      · have HD := hid (Bool.eq_false_iff.2 hd)
        have hm : mis x y c = true := by rw [mis_low (by omega) (by rw [HbX.out]; omega), HD.out]; rfl
        have HM := hid (meet_of hm (by rw [eX.out]; omega))
        clear hd hm
        gi_wp2
        refine ⟨trivial, (fun h => by cases h), ?_⟩
        refine (callsIn_wide.2 hC.out).mono ?_
        rintro e w2 ⟨rfl, a2⟩
        rw [HD.out]
        dsimp only
        have HA := hid a2
        clear a2 c0 c1 c2 d0 d1' d2
        obtain ⟨fn, tmps, assign, body, hy', hR⟩ := HY.out (miss x y c) c w2 (HJ.out _ _ _ HJc.out HA.out) HM.out.lt
        gi_wp2
        refine ⟨(fun h => by cases h), ?_⟩
        refine hR.mono ?_
        rintro e W3 (⟨rfl, hJ3, hk3⟩ | ⟨rfl, hJx3⟩)
        · dsimp only
          have HK := hid (HKp.out _ _ hk3 (HT.out.kept0 HA.out) (HB1.out.kept HA.out) (HB2.out.kept HA.out))
          have HJ3 := hid hJ3
          clear hk3 hJ3 hR hy'
          gi_wp2
          go_roundw
          case rel =>
            refine ⟨c + 1, by go_num, by omega, .inl (by omega), HK.out.1, HK.out.2.1, HK.out.2.2, ?_⟩
            rw [HM.out.nx]; exact HJ3.out
          case measure => simp only [intOf]; omega
        · dsimp only
          have HJ3 := hid hJx3
          clear hJx3 hR hy'
          gi_wp2
          refine bodyPost_ret (results_none rfl _ _ _) rfl ?_
          exact ⟨⟨_, rfl⟩, .inr ⟨_, HM.out.pre, HJ3.out⟩⟩
    · have HJ2 : Hid (J (miss x y (bX + 1)) wr) := by
        rcases hc2 with h1 | h1
        · have : c = bX + 1 := by omega
          rw [← this]; exact HJc.out
        · have e1 : miss x y c = [] := by rw [h1]; exact miss_low x y (bY + 1) (fun c h1 h2 => dot_low (by rw [HbY.out]; omega))
          have e2 : miss x y (bX + 1) = [] := miss_low x y (bX + 1) (fun d h1 h2 => dot_low (by rw [HbY.out]; omega))
          rw [e2, ← e1]; exact HJc.out
      have hgt : ¬ (c ≤ bX) := hlt
      have ht := hx.lt
      clear hc2 HJc
      gi_wp2
      gi_loopw [5] (fun v wr => ∃ t i : Nat, v = .int .u64 (t : Nat) ∧ t < 2 ^ 64 ∧ i ≤ 64 ∧ (∀ j, t.testBit j = (decide (i ≤ j) && x.t.testBit j)) ∧ Tab wr ∧ Bsp wr By y ∧ Bsp wr Bx x ∧ J (miss x y (bX + 1 + i)) wr) (fun v _ => (intOf v).toNat)
      case atStart => exact ⟨x.t, 0, rfl, ht, by omega, fun j => by simp, HT.out, HB1.out, HB2.out, HJ2.out⟩
      case round =>
        clear c0 c1 c2 d0 d1' d2 HT HB1 HB2 HJ2 ht
        obtain ⟨t, i, rfl, ht, hi, hbits, T, b1, b2, hJc⟩ := hrel
        have HT := hid T
        have HB1 := hid b1
        have HB2 := hid b2
        have HJc := hid hJc
        have HBT := hid hbits
        have HTL : Lt64 t := ⟨ht⟩
        obtain ⟨c0, c1, c2⟩ := b1
        obtain ⟨d0, d1, d2⟩ := b2
        have d1' : wr.cell? ⟨Bx, 1, none⟩ = some (.int .i64 (bX : Nat)) := by rw [d1, HbX.out]
        clear d1 T hJc hbits
        by_cases hz : t = 0
        · subst hz
          have HE : Hid (miss x y (bX + 1 + i) = lack x y) := by
            unfold Hid lack
            rw [eX.out, show bX + 65 = bX + 1 + i + (64 - i) from by omega, miss_same x y (bX + 1 + i) (64 - i) (fun c h1 h2 => ?_)]
            obtain ⟨j, rfl⟩ : ∃ j, c = bX + 1 + j := ⟨c - bX - 1, by omega⟩
            have h3 := HBT.out j
            rw [Nat.zero_testBit, decide_eq_true (by omega : i ≤ j), Bool.true_and] at h3
            have := mis_bit (x := x) (y := y) hx.b0 j
            rw [eX.out, ← h3, Bool.false_and] at this
            exact this
          have HJE : Hid (J (lack x y) wr) := by rw [← HE.out]; exact HJc.out
          clear c0 c1 c2 d0 d1' d2 HTL ht
          gi_wp2
          go_end0
          exact ⟨⟨_, rfl⟩, .inl ⟨_, rfl, HJE.out⟩⟩
        · have HL := hid (low_ctz t hz ht)
          have htz := hid (tz64 t (by simpa using ht) wr.drew ⟨HT.out.at'⟩)
          obtain ⟨k, Hk⟩ : ∃ k, Hid (k = Lib.ctz 64 t) := ⟨_, rfl⟩
          rw [← Hk.out] at HL
          have hz' : ((t : Int) != 0) = true := by rw [bne_iff_ne]; omega
          have hk64 : k < 64 := HL.out.lt
          have hC := hid (holds_ok y ((bX : Int) + 1 + k) wr.drew hy.b0 hy.lt (by omega))
          have eC : Hid (((bX + 1 + k : Nat) : Int) = (bX : Int) + 1 + k) := by unfold Hid; omega
          have hik : i ≤ k := by
            have h1 := HBT.out k
            rw [HL.out.bit] at h1
            have h2 : (decide (i ≤ k) && x.t.testBit k) = true := h1.symm
            simp at h2; exact h2.1
          have hxk : x.t.testBit k = true := by
            have h1 := HBT.out k
            rw [HL.out.bit] at h1
            have h2 : (decide (i ≤ k) && x.t.testBit k) = true := h1.symm
            simp at h2; exact h2.2
          have HS : Hid (miss x y (bX + 1 + k) = miss x y (bX + 1 + i)) := by
            unfold Hid
            rw [show bX + 1 + k = bX + 1 + i + (k - i) from by omega]
            refine miss_same x y (bX + 1 + i) (k - i) (fun c h1 h2 => ?_)
            obtain ⟨j, rfl⟩ : ∃ j, c = bX + 1 + j := ⟨c - bX - 1, by omega⟩
            have h3 := HBT.out j
            rw [HL.out.low j (by omega), decide_eq_true (by omega : i ≤ j), Bool.true_and] at h3
            have := mis_bit (x := x) (y := y) hx.b0 j
            rw [eX.out, ← h3, Bool.false_and] at this
            exact this
          have HMB : Hid (mis x y (bX + 1 + k) = !dot y ((bX : Int) + 1 + k)) := by
            have := mis_bit (x := x) (y := y) hx.b0 k
            rw [eX.out, hxk, Bool.true_and, eC.out] at this
            exact this
          have HNT : Hid ((∀ j, (t &&& (t - 1)).testBit j = (decide (k + 1 ≤ j) && x.t.testBit j))) := by
            intro j
            rw [HL.out.clr j, HBT.out j]
            by_cases h1 : j = k
            · subst h1; simp; omega
            · by_cases h2 : k < j
              · simp [h1, show i ≤ j by omega, show k + 1 ≤ j by omega]
              · have h3 := HBT.out j
                rw [HL.out.low j (by omega)] at h3
                rw [← h3]; simp; omega
          have HN64 : Lt64 (t &&& (t - 1)) := ⟨Nat.lt_of_le_of_lt Nat.and_le_left HTL.lt⟩
          have HNlt : Hid (t &&& (t - 1) < t) := by
            unfold Hid
            have h1 : t &&& (t - 1) ≤ t - 1 := Nat.and_le_right
            omega
          have HJc2 : Hid (J (miss x y (bX + 1 + k)) wr.drew) := by
            rw [HS.out]; exact HJ.out _ _ _ HJc.out ((Apart.refl [] wr).drewN 1)
          have HTd : Hid (Tab wr.drew) := ⟨HT.out.at'⟩
          have HB1d : Hid (Bsp wr.drew By y) := ⟨HB1.out.c0, HB1.out.c1, HB1.out.c2⟩
          have HB2d : Hid (Bsp wr.drew Bx x) := ⟨HB2.out.c0, HB2.out.c1, HB2.out.c2⟩
          have hand0 : bits .and .u64 (t : Int) ((t : Int) - 1) = ((t &&& (t - 1) : Nat) : Int) := by
            rw [show ((t : Int) - 1) = ((t - 1 : Nat) : Int) from by omega]
            have h1 : t < 18446744073709551616 := by simpa using ht
            exact and_nat t (t - 1) h1 (by omega)
          have HW : Hid (IntKind.u64.wrap ((t : Int) - 1) = (t : Int) - 1) := by
            have h1 : t < 18446744073709551616 := by simpa using ht
            unfold Hid
            rw [IntKind.wrap_u64]
            omega
          have HAND := hid hand0
          clear ht hik hxk hand0
          cases hdy : dot y ((bX : Int) + 1 + k) with
          | true =>
            have HM := HMB.out
            rw [hdy] at HM
            have HM2 := hid (miss_skip (x := x) (y := y) (c := bX + 1 + k) (by rw [HM]; rfl))
            rw [hdy] at hC
            clear HM hdy
            gi_wp2
            gi_region_with (first | (refine ⟨trivial, (fun h => by cases h), ?_⟩; refine (callsIn_wide.2 htz.out).mono ?_; rintro e w2 ⟨rfl, rfl⟩; rw [← Hk.out]) | (gi_at_call 74; refine (callsIn_wide.2 htz.out).mono ?_; rintro e w2 ⟨rfl, rfl⟩; rw [← Hk.out]))
            all_goals
              gi_wp2
              refine ⟨trivial, (fun h => by cases h), ?_⟩
              refine (callsIn_wide.2 hC.out).mono ?_
              rintro e w2 ⟨rfl, a2⟩
              dsimp only
              have HA := hid a2
              clear a2 c0 c1 c2 d0 d1' d2 hz'
              gi_wp2
              refine ⟨fun _ h => (by cases h), ?_⟩
              have hand := HAND.out
              have hw := HW.out
              gi_wp2
              go_roundw
              case rel => exact ⟨t &&& (t - 1), k + 1, rfl, HN64.lt, by omega, HNT.out, HTd.out.kept0 HA.out, HB1d.out.kept HA.out, HB2d.out.kept HA.out, by rw [show bX + 1 + (k + 1) = bX + 1 + k + 1 from by omega, HM2.out]; exact HJ.out _ _ _ HJc2.out HA.out⟩
              case measure => have := HNlt.out; simp only [intOf]; omega
          | false =>
            have HM := HMB.out
            rw [hdy] at HM
            have HM2 := hid (meet_of (x := x) (y := y) (c := bX + 1 + k) (by rw [HM]; rfl) (by rw [eX.out]; omega))
            rw [hdy] at hC
            clear HM hdy
            gi_wp2
            gi_region_with (first | (refine ⟨trivial, (fun h => by cases h), ?_⟩; refine (callsIn_wide.2 htz.out).mono ?_; rintro e w2 ⟨rfl, rfl⟩; rw [← Hk.out]) | (gi_at_call 74; refine (callsIn_wide.2 htz.out).mono ?_; rintro e w2 ⟨rfl, rfl⟩; rw [← Hk.out]))
            all_goals
              gi_wp2
              refine ⟨trivial, (fun h => by cases h), ?_⟩
              refine (callsIn_wide.2 hC.out).mono ?_
              rintro e w2 ⟨rfl, a2⟩
              dsimp only
              have HA := hid a2
              clear a2 c0 c1 c2 d0 d1' d2
              obtain ⟨fn, tmps, assign, body, hy', hR⟩ := HY.out (miss x y (bX + 1 + k)) (bX + 1 + k) w2 (HJ.out _ _ _ HJc2.out HA.out) HM2.out.lt
              rw [eC.out] at hy'
              gi_wp2
              refine ⟨(fun h => by cases h), ?_⟩
              refine hR.mono ?_
              rintro e W3 (⟨rfl, hJ3, hk3⟩ | ⟨rfl, hJx3⟩)
              · dsimp only
                have HK := hid (HKp.out _ _ hk3 (HTd.out.kept0 HA.out) (HB1d.out.kept HA.out) (HB2d.out.kept HA.out))
                have HJ3 := hid hJ3
                clear hk3 hJ3 hR hy'
                have hand := HAND.out
                have hw := HW.out
                gi_wp2
                go_roundw
                case rel => exact ⟨t &&& (t - 1), k + 1, rfl, HN64.lt, by omega, HNT.out, HK.out.1, HK.out.2.1, HK.out.2.2, by rw [show bX + 1 + (k + 1) = bX + 1 + k + 1 from by omega, HM2.out.nx]; exact HJ3.out⟩
                case measure => have := HNlt.out; simp only [intOf]; omega
              · dsimp only
                have HJ3 := hid hJx3
                clear hJx3 hR hy'
                gi_wp2
                refine bodyPost_ret (results_none rfl _ _ _) rfl ?_
                exact ⟨⟨_, rfl⟩, .inr ⟨_, HM2.out.pre, HJ3.out⟩⟩
end Go.Proofs.YtdggkofihppcmaaDoor.ds
