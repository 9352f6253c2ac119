import Derived.Test.YtpddokbjjhbfgaaGreatChecked
import Derived.WalkKit
import Derived.ProofKit
import Derived.Maps.OwnSet
import Derived.Maps.RangeWalk
import Derived.DeepKeys4
import Derived.MapViews
import Derived.StringKeys
import Derived.Lib.TrailingZeros
import Derived.OpenShut
import Derived.Deep.QuietTactic
import Derived.BigQuiet
import Derived.BigRegion
import Derived.Laws.CopyOwn
import Derived.Laws.Bits64b
import Derived.Laws.MathBits
import Derived.Laws.ShiftsVarLaws
import Derived.WalkSmall
import Derived.Laws.ResultCell
import Derived.Lib.BitFns
import Derived.Laws.StructEq
import Derived.Deep.RegionHeld
import Derived.ArgAppend
import Derived.Deep.RegionLaw
import Derived.Deep.DeepAppendRoom
import Derived.Sort.WalkA
import Derived.Laws.Strings
import Derived.Deep.CutBlock
import Derived.Great.BuildSlice
import Derived.Laws.BytesString
import Derived.Laws.AppendOwnNone
import Derived.Lib.Overlaps
import Derived.Lib.AppendZerosOnto
import Derived.Laws.NewBlocks
import Derived.Laws.Externs
import Derived.Laws.IdiomCopy
import Derived.RangeFuncNested
import Derived.RangeFuncBound
import Derived.RangeFuncCalls
import Derived.RangeFuncLeaves
import Derived.Shelf.Abstract
import Derived.Shelf.RegionOpen
import Derived.OwnWalkIn
import Derived.TacticsInMore
import Derived.LoopNIn
import Derived.LoopIn
import Derived.Deep.CutRange
import Derived.Deep.OwnRows
import Derived.Lib.Walk
import Derived.Lib.SliceRun
import GoSem.Claim
import GoSem.ClaimJoined
import GoSem.ClaimMapViews
import Derived.JoinedTies
import Derived.KernelRfl
import Derived.Lib.LaidTab
import Derived.JoinedCond
import Derived.ShutString
import Derived.ChangeOld
import Derived.Below
import Derived.Carry
import Derived.ChangeSlices
import Derived.Deep.Slices
import Derived.Deep.DeepHandedRow
import Derived.RowKit
import Derived.ChangeShapes
import Derived.SizedLaws
import Derived.ChangeMaps5
import Derived.OrdersHeld
import Derived.Lib.AppendStr
import Derived.Lib.ConvBytes
import Derived.Deep.RegionHeld3
import Derived.Deep.MidRow
import Derived.Laws.BitsAllLaws
import Derived.Sort.Grow
import Derived.Shelf.SlSortCmp.WholeK
import Derived.Shelf.Lay
import Derived.Ground.SlsfProg
import Derived.Sort.LotA
import Derived.Sort.MapsRangeIn
import Derived.RangeFuncSeq
import Derived.RangeFuncKeeps
import Derived.Maps.AppendAt
import Derived.OwnWalk
import Derived.Test.YtpddokbjjhbfgaaGreatRows
import Derived.Test.YtpddokbjjhbfgaaGreatU40
namespace Go.Proofs.YtpddokbjjhbfgaaGreat.ds
open Go.ChangeShapes Go.WideShapes Go.ChangeAt Go.RowKit Go.Sort
set_option linter.unusedVariables false
set_option linter.unusedSimpArgs false
/-- what the document asks of a write alone -/
noncomputable def r5R (e : E) (xs : List S) (gap : Int) : Bool := keyR e.k && decide (((e.v.n : Nat) : Int) ≤ 64) && !(e.d && decide (((e.v.n : Nat) : Int) > 0)) && isd e.n e.c && decide (chk xs gap = 0) && !hz xs (e.n, e.c)
theorem r9_eq {c : Cf} (hc : CR c = true) (e : E) (xs : List S) : (r5R e xs c.g && setR c xs && decide (e.n < c.n) && decide (e.c ≤ c.c)) = wrR c e xs := by
  unfold CR at hc
  simp only [Bool.and_eq_true, decide_eq_true_eq] at hc
  rw [Bool.eq_iff_iff]
  unfold r5R wrR setR isd
  simp only [Bool.and_eq_true, decide_eq_true_eq, Bool.not_eq_true']
  constructor
  · rintro ⟨⟨⟨⟨⟨⟨⟨⟨h1, h2⟩, h3⟩, h4⟩, h5⟩, h6⟩, h7⟩, h8⟩, h9⟩
    exact ⟨⟨⟨⟨⟨⟨⟨⟨h1, h2⟩, h3⟩, by omega⟩, h8⟩, by omega⟩, h9⟩, h7⟩, h6⟩
  · rintro ⟨⟨⟨⟨⟨⟨⟨⟨h1, h2⟩, h3⟩, h4⟩, h5⟩, h6⟩, h7⟩, h8⟩, h9⟩
    exact ⟨⟨⟨⟨⟨⟨⟨⟨h1, h2⟩, h3⟩, by omega⟩, h8.1⟩, h9⟩, h8⟩, h5⟩, h7⟩
set_option maxHeartbeats 4000000 in
set_option maxRecDepth 100000 in
theorem d5right_ok {w : World} (e : E) {xs : List S} (h : L w e.x.p e.x.n xs) (hk : e.k.size ≤ 9223372036854775807) (hv : e.v.n ≤ 9223372036854775807) (gap : Int) : Calls Tryz.prog 114 #[.agg #[.int .i64 e.n, .int .i64 e.c, .string e.k, .bool e.d, .slice e.v.p e.v.n e.v.c, .slice e.x.p e.x.n e.x.c], .int .i64 gap] w fun r w' => r = .returned (.bool (r5R e xs gap)) ∧ Apart [] w w' := by
  obtain ⟨X, HX⟩ : ∃ X, Hid (X = w.heap.size) := ⟨_, hid rfl⟩
  obtain ⟨w1, hw1⟩ : ∃ V, V = w.alloc (.cells #[.int .i64 e.n, .int .i64 e.c, .string e.k, .bool e.d, .slice e.v.p e.v.n e.v.c, .slice e.x.p e.x.n e.x.c] 38) := ⟨_, rfl⟩
  have a1 : Apart [] w w1 := by rw [hw1]; exact (Apart.refl [] w).alloc _
  have hb1 : w1.heap[X]? = some (.cells #[.int .i64 e.n, .int .i64 e.c, .string e.k, .bool e.d, .slice e.v.p e.v.n e.v.c, .slice e.x.p e.x.n e.x.c] 38 (0, 0)) := by rw [hw1, HX.out]; exact heap_alloc_new w _
  have HB1 := hid hb1
  have HL1 := hid (h.kept0 a1)
  have HA := hid a1
  have c2 := crow hb1 2 (.string e.k) rfl
  have c3 := crow hb1 3 (.bool e.d) rfl
  have c4 := crow hb1 4 (.slice e.v.p e.v.n e.v.c) rfl
  have c0 := crow hb1 0 (.int .i64 e.n) rfl
  have c1 := crow hb1 1 (.int .i64 e.c) rfl
  obtain ⟨ans, Hans⟩ : ∃ b, Hid (b = r5R e xs gap) := ⟨_, hid rfl⟩
  rw [← Hans.out]
  clear a1 hb1 h
  by_cases k1 : ((e.k.size : Nat) : Int) < 1
  · have hn : ans = false := by rw [Hans.out]; unfold r5R keyR; rw [decide_eq_false (by omega : ¬ (1 ≤ e.k.size ∧ e.k.size ≤ 16))]; simp
    subst hn
    go_enter Tryz.func114, Tryz.ntmps114
    go_upto_region 1 with fail
    rw [← hw1, ← HX.out]
    clear hw1 HX
    go_wp2_with fail
    go_ret
    exact ⟨rfl, HA.out⟩
  by_cases k2 : ((e.k.size : Nat) : Int) > 16
  · have hn : ans = false := by rw [Hans.out]; unfold r5R keyR; rw [decide_eq_false (by omega : ¬ (1 ≤ e.k.size ∧ e.k.size ≤ 16))]; simp
    subst hn
    go_enter Tryz.func114, Tryz.ntmps114
    go_upto_region 1 with fail
    rw [← hw1, ← HX.out]
    clear hw1 HX
    go_wp2_with fail
    go_ret
    exact ⟨rfl, HA.out⟩
  by_cases k3 : ((e.v.n : Nat) : Int) > 64
  · have hn : ans = false := by rw [Hans.out]; unfold r5R; rw [decide_eq_false (by omega : ¬ (((e.v.n : Nat) : Int) ≤ 64))]; simp
    subst hn
    go_enter Tryz.func114, Tryz.ntmps114
    go_upto_region 1 with fail
    rw [← hw1, ← HX.out]
    clear hw1 HX
    go_wp2_with fail
    go_ret
    exact ⟨rfl, HA.out⟩
  have HKR : Hid (keyR e.k = true) := hid (by unfold keyR; exact decide_eq_true ⟨by omega, by omega⟩)
  have hv64 : decide (((e.v.n : Nat) : Int) ≤ 64) = true := decide_eq_true (by omega)
  have HV64 := hid hv64
  clear hv64
  obtain ⟨d, Hd⟩ : ∃ d, Hid (d = e.d) := ⟨_, hid rfl⟩
  obtain ⟨q, Hq⟩ : ∃ q, Hid (q = decide (((e.v.n : Nat) : Int) > 0)) := ⟨_, hid rfl⟩
  have hqv : decide (((e.v.n : Nat) : Int) > 0) = q := Hq.out.symm
  have HQV := hid hqv
  rw [← Hd.out] at c3
  go_enter Tryz.func114, Tryz.ntmps114
  go_upto_region 1 with fail
  rw [← hw1, ← HX.out]
  clear hw1 HX
  cases d with
  | true =>
    cases q with
    | true =>
      have hn : ans = false := by rw [Hans.out]; unfold r5R; rw [← Hd.out, ← Hq.out]; simp
      subst hn
      have hqp : ((e.v.n : Nat) : Int) > 0 := by have := Hq.out; simpa using this.symm
      clear hqv
      go_wp2_with fail
      go_ret
      exact ⟨rfl, HA.out⟩
    | false =>
      have HAN : Hid (ans = (isd e.n e.c && decide (chk xs gap = 0) && !hz xs (e.n, e.c))) := hid (by rw [Hans.out]; unfold r5R; rw [HKR.out, HV64.out, ← Hd.out, ← Hq.out]; simp)
      have hqp : ¬ ((e.v.n : Nat) : Int) > 0 := by have := Hq.out; simpa using this.symm
      clear hqv
      go_wp2_with fail
      refine (rdot_ok e.n e.c w1).mono ?_
      rintro _ w2 ⟨rfl, a2⟩
      have HB2 := hid (keep0 a2 HB1.out)
      have HA2 := hid a2
      clear a2 c0 c1 c2 c3 c4
      have HL2 := hid (HL1.out.kept0 HA2.out)
      obtain ⟨b1, Hb1⟩ : ∃ b, Hid (b = isd e.n e.c) := ⟨_, hid rfl⟩
      obtain ⟨ck, Hck⟩ : ∃ b, Hid (b = chk xs gap) := ⟨_, hid rfl⟩
      obtain ⟨hb, Hhb⟩ : ∃ b, Hid (b = hz xs (e.n, e.c)) := ⟨_, hid rfl⟩
      rw [← Hb1.out] at HAN ⊢
      rw [← Hck.out, ← Hhb.out] at HAN
      have c0 := crow HB2.out 0 (.int .i64 e.n) rfl
      have c1 := crow HB2.out 1 (.int .i64 e.c) rfl
      have c5 := crow HB2.out 5 (.slice e.x.p e.x.n e.x.c) rfl
      try dsimp only
      cases b1 with
      | false =>
        have HZ := hid (HA.out.trans HA2.out)
        go_wp2_with fail
        go_ret
        exact ⟨by rw [HAN.out]; rfl, HZ.out⟩
      | true =>
        go_wp2_with fail
        refine (rchk_ok HL2.out ck Hck.out).mono ?_
        rintro _ w3 ⟨rfl, a3⟩
        have HB3 := hid (keep0 a3 HB2.out)
        have HA3 := hid (HA2.out.trans a3)
        clear a3 c0 c1 c5
        have HL3 := hid (HL1.out.kept0 HA3.out)
        have c0 := crow HB3.out 0 (.int .i64 e.n) rfl
        have c1 := crow HB3.out 1 (.int .i64 e.c) rfl
        have c5 := crow HB3.out 5 (.slice e.x.p e.x.n e.x.c) rfl
        try dsimp only
        by_cases h0 : ck = 0
        · have hz0 : (ck == 0) = true := by simp [h0]
          have HAN2 : Hid (ans = !hb) := hid (by rw [HAN.out, decide_eq_true h0]; simp)
          clear h0
          go_wp2_with fail
          refine (rhas_ok e.n e.c HL3.out hb Hhb.out).mono ?_
          rintro _ w4 ⟨rfl, a4⟩
          have HZ := hid ((HA.out.trans HA3.out).trans a4)
          clear a4 c0 c1 c5
          try dsimp only
          go_wp2_with fail
          go_ret
          exact ⟨by rw [HAN2.out]; rfl, HZ.out⟩
        · have hz0 : (ck == 0) = false := by simp [h0]
          have HAN2 : Hid (ans = false) := hid (by rw [HAN.out, decide_eq_false h0]; simp)
          have HZ := hid (HA.out.trans HA3.out)
          clear h0
          go_wp2_with fail
          go_ret
          exact ⟨by rw [HAN2.out]; rfl, HZ.out⟩
  | false =>
    have HAN : Hid (ans = (isd e.n e.c && decide (chk xs gap = 0) && !hz xs (e.n, e.c))) := hid (by rw [Hans.out]; unfold r5R; rw [HKR.out, HV64.out, ← Hd.out]; simp)
    clear hqv
    go_wp2_with fail
    refine (rdot_ok e.n e.c w1).mono ?_
    rintro _ w2 ⟨rfl, a2⟩
    have HB2 := hid (keep0 a2 HB1.out)
    have HA2 := hid a2
    clear a2 c0 c1 c2 c3 c4
    have HL2 := hid (HL1.out.kept0 HA2.out)
    obtain ⟨b1, Hb1⟩ : ∃ b, Hid (b = isd e.n e.c) := ⟨_, hid rfl⟩
    obtain ⟨ck, Hck⟩ : ∃ b, Hid (b = chk xs gap) := ⟨_, hid rfl⟩
    obtain ⟨hb, Hhb⟩ : ∃ b, Hid (b = hz xs (e.n, e.c)) := ⟨_, hid rfl⟩
    rw [← Hb1.out] at HAN ⊢
    rw [← Hck.out, ← Hhb.out] at HAN
    have c0 := crow HB2.out 0 (.int .i64 e.n) rfl
    have c1 := crow HB2.out 1 (.int .i64 e.c) rfl
    have c5 := crow HB2.out 5 (.slice e.x.p e.x.n e.x.c) rfl
    try dsimp only
    cases b1 with
    | false =>
      have HZ := hid (HA.out.trans HA2.out)
      go_wp2_with fail
      go_ret
      exact ⟨by rw [HAN.out]; rfl, HZ.out⟩
    | true =>
      go_wp2_with fail
      refine (rchk_ok HL2.out ck Hck.out).mono ?_
      rintro _ w3 ⟨rfl, a3⟩
      have HB3 := hid (keep0 a3 HB2.out)
      have HA3 := hid (HA2.out.trans a3)
      clear a3 c0 c1 c5
      have HL3 := hid (HL1.out.kept0 HA3.out)
      have c0 := crow HB3.out 0 (.int .i64 e.n) rfl
      have c1 := crow HB3.out 1 (.int .i64 e.c) rfl
      have c5 := crow HB3.out 5 (.slice e.x.p e.x.n e.x.c) rfl
      try dsimp only
      by_cases h0 : ck = 0
      · have hz0 : (ck == 0) = true := by simp [h0]
        have HAN2 : Hid (ans = !hb) := hid (by rw [HAN.out, decide_eq_true h0]; simp)
        clear h0
        go_wp2_with fail
        refine (rhas_ok e.n e.c HL3.out hb Hhb.out).mono ?_
        rintro _ w4 ⟨rfl, a4⟩
        have HZ := hid ((HA.out.trans HA3.out).trans a4)
        clear a4 c0 c1 c5
        try dsimp only
        go_wp2_with fail
        go_ret
        exact ⟨by rw [HAN2.out]; rfl, HZ.out⟩
      · have hz0 : (ck == 0) = false := by simp [h0]
        have HAN2 : Hid (ans = false) := hid (by rw [HAN.out, decide_eq_false h0]; simp)
        have HZ := hid (HA.out.trans HA3.out)
        clear h0
        go_wp2_with fail
        go_ret
        exact ⟨by rw [HAN2.out]; rfl, HZ.out⟩
set_option maxHeartbeats 4000000 in
set_option maxRecDepth 100000 in
/-- the document's Right of a write -/
theorem dright_ok {w : World} {c : Cf} (hc : CR c = true) (e : E) {xs : List S} (h : L w e.x.p e.x.n xs) (hk : e.k.size ≤ 9223372036854775807) (hv : e.v.n ≤ 9223372036854775807) : Calls Tryz.prog 89 #[.agg c.a, .agg #[.int .i64 e.n, .int .i64 e.c, .string e.k, .bool e.d, .slice e.v.p e.v.n e.v.c, .slice e.x.p e.x.n e.x.c]] w fun r w' => r = .returned (.bool (wrR c e xs)) ∧ Apart [] w w' := by
  obtain ⟨X, HX⟩ : ∃ X, Hid (X = w.heap.size) := ⟨_, hid rfl⟩
  obtain ⟨w1, hw1⟩ : ∃ V, V = (w.alloc (.cells c.a 27)).alloc (.cells #[.int .i64 e.n, .int .i64 e.c, .string e.k, .bool e.d, .slice e.v.p e.v.n e.v.c, .slice e.x.p e.x.n e.x.c] 38) := ⟨_, rfl⟩
  have a1 : Apart [] w w1 := by rw [hw1]; exact ((Apart.refl [] w).alloc _).alloc _
  have h1 : w1.heap[X]? = some (.cells c.a 27 (0, 0)) := by
    rw [hw1, HX.out]
    exact (((Apart.refl [] (w.alloc (.cells c.a 27))).alloc _).block _ (by simp) (by simp)).trans (heap_alloc_new w _)
  have h2 : w1.heap[X + 1]? = some (.cells #[.int .i64 e.n, .int .i64 e.c, .string e.k, .bool e.d, .slice e.v.p e.v.n e.v.c, .slice e.x.p e.x.n e.x.c] 38 (0, 0)) := by
    rw [hw1, HX.out]
    have := heap_alloc_new (w.alloc (.cells c.a 27)) (.cells #[.int .i64 e.n, .int .i64 e.c, .string e.k, .bool e.d, .slice e.v.p e.v.n e.v.c, .slice e.x.p e.x.n e.x.c] 38)
    simpa using this
  have HA := hid a1
  have HC1 := hid h1
  have HE1 := hid h2
  have HL1 := hid (h.kept0 a1)
  obtain ⟨q1, Hq1⟩ : ∃ b, Hid (b = r5R e xs c.g) := ⟨_, hid rfl⟩
  obtain ⟨q2, Hq2⟩ : ∃ b, Hid (b = setR c xs) := ⟨_, hid rfl⟩
  obtain ⟨q3, Hq3⟩ : ∃ b, Hid (b = decide (e.n < c.n)) := ⟨_, hid rfl⟩
  obtain ⟨q4, Hq4⟩ : ∃ b, Hid (b = decide (e.c ≤ c.c)) := ⟨_, hid rfl⟩
  have HAN : Hid (wrR c e xs = (q1 && q2 && q3 && q4)) := hid (by rw [Hq1.out, Hq2.out, Hq3.out, Hq4.out]; exact (r9_eq hc e xs).symm)
  rw [HAN.out]
  have HR5 : Hid (Calls Tryz.prog 114 #[.agg #[.int .i64 e.n, .int .i64 e.c, .string e.k, .bool e.d, .slice e.v.p e.v.n e.v.c, .slice e.x.p e.x.n e.x.c], .int .i64 c.g] w1 fun r w' => r = .returned (.bool q1) ∧ Apart [] w1 w') := hid (by rw [Hq1.out]; exact d5right_ok e HL1.out hk hv c.g)
  have HST : Hid (∀ W, Apart [] w1 W → Calls Tryz.prog 115 #[.agg c.a, .slice e.x.p e.x.n e.x.c] W fun r w' => r = .returned (.bool q2) ∧ Apart [] W w') := fun W a => by rw [Hq2.out]; exact dset_ok c (HL1.out.kept0 a)
  have hq3 : decide (e.n < c.n) = q3 := Hq3.out.symm
  have hq4 : decide (e.c ≤ c.c) = q4 := Hq4.out.symm
  have HQ34 := hid (And.intro hq3 hq4)
  unfold Cf.a at hw1 HC1 HST ⊢
  clear a1 h1 h2 hk hv hc h hq3 hq4
  go_enter Tryz.func89, Tryz.ntmps89
  go_upto_region 1 with fail
  rw [← hw1, ← HX.out]
  clear hw1 HX
  obtain ⟨x0, x1, x2, x3, x4, x5⟩ := (show _ ∧ _ ∧ _ ∧ _ ∧ _ ∧ _ from ⟨crow HE1.out 0 (.int .i64 e.n) rfl, crow HE1.out 1 (.int .i64 e.c) rfl, crow HE1.out 2 (.string e.k) rfl, crow HE1.out 3 (.bool e.d) rfl, crow HE1.out 4 (.slice e.v.p e.v.n e.v.c) rfl, crow HE1.out 5 (.slice e.x.p e.x.n e.x.c) rfl⟩)
  have g4 := crow HC1.out 4 (.int .i64 c.g) rfl
  go_wp2_with fail
  refine HR5.out.mono ?_
  rintro _ w2 ⟨rfl, a2⟩
  have HA2 := hid a2
  have HC2 := hid (keep0 a2 HC1.out)
  have HE2 := hid (keep0 a2 HE1.out)
  clear a2 x0 x1 x2 x3 x4 x5 g4 HR5
  have x5 := crow HE2.out 5 (.slice e.x.p e.x.n e.x.c) rfl
  have g0 := crow HC2.out 0 (.int .i64 c.n) rfl
  have g1 := crow HC2.out 1 (.int .i64 c.p) rfl
  have g2 := crow HC2.out 2 (.int .i64 c.r) rfl
  have g3 := crow HC2.out 3 (.int .i64 c.s) rfl
  have g4 := crow HC2.out 4 (.int .i64 c.g) rfl
  have g5 := crow HC2.out 5 (.int .i64 c.c) rfl
  have g6 := crow HC2.out 6 (.int .i64 c.k) rfl
  have g7 := crow HC2.out 7 (.int .i64 c.h) rfl
  have g8 := crow HC2.out 8 (.int .i64 c.b) rfl
  try dsimp only
  go_wp2_with fail
  refine (HST.out w2 HA2.out).mono ?_
  rintro _ w3 ⟨rfl, a3⟩
  have HA3 := hid ((HA.out.trans HA2.out).trans a3)
  have HC3 := hid (keep0 a3 HC2.out)
  have HE3 := hid (keep0 a3 HE2.out)
  clear a3 x5 g0 g1 g2 g3 g4 g5 g6 g7 g8 HST
  have x0 := crow HE3.out 0 (.int .i64 e.n) rfl
  have x1 := crow HE3.out 1 (.int .i64 e.c) rfl
  have g0 := crow HC3.out 0 (.int .i64 c.n) rfl
  have g5 := crow HC3.out 5 (.int .i64 c.c) rfl
  try dsimp only
  cases q1 with
  | false =>
    go_wp2_with fail
    go_ret
    exact ⟨rfl, HA3.out⟩
  | true =>
  cases q2 with
  | false =>
    go_wp2_with fail
    go_ret
    exact ⟨rfl, HA3.out⟩
  | true =>
  cases q3 with
  | false =>
    have hq3 : ¬ e.n < c.n := by have := HQ34.out.1; simpa using this
    go_wp2_with fail
    go_ret
    exact ⟨rfl, HA3.out⟩
  | true =>
  have hq3 : e.n < c.n := by have := HQ34.out.1; simpa using this
  cases q4 with
  | false =>
    have hq4 : ¬ e.c ≤ c.c := by have := HQ34.out.2; simpa using this
    go_wp2_with fail
    go_ret
    exact ⟨rfl, HA3.out⟩
  | true =>
    have hq4 : e.c ≤ c.c := by have := HQ34.out.2; simpa using this
    go_wp2_with fail
    go_ret
    exact ⟨rfl, HA3.out⟩
end Go.Proofs.YtpddokbjjhbfgaaGreat.ds
