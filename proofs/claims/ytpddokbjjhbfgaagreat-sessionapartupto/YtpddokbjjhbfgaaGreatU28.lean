import Derived.Test.YtpddokbjjhbfgaaGreatChecked
import Derived.WalkKit
import Derived.ProofKit
import Derived.Maps.OwnSet
import Derived.Maps.RangeWalk
import Derived.DeepKeys4
import Derived.MapViews
import Derived.StringKeys
import Derived.Lib.TrailingZeros
import Derived.OpenShut
import Derived.Deep.QuietTactic
import Derived.BigQuiet
import Derived.BigRegion
import Derived.Laws.CopyOwn
import Derived.Laws.Bits64b
import Derived.Laws.MathBits
import Derived.Laws.ShiftsVarLaws
import Derived.WalkSmall
import Derived.Laws.ResultCell
import Derived.Lib.BitFns
import Derived.Laws.StructEq
import Derived.Deep.RegionHeld
import Derived.ArgAppend
import Derived.Deep.RegionLaw
import Derived.Deep.DeepAppendRoom
import Derived.Sort.WalkA
import Derived.Laws.Strings
import Derived.Deep.CutBlock
import Derived.Great.BuildSlice
import Derived.Laws.BytesString
import Derived.Laws.AppendOwnNone
import Derived.Lib.Overlaps
import Derived.Lib.AppendZerosOnto
import Derived.Laws.NewBlocks
import Derived.Laws.Externs
import Derived.Laws.IdiomCopy
import Derived.RangeFuncNested
import Derived.RangeFuncBound
import Derived.RangeFuncCalls
import Derived.RangeFuncLeaves
import Derived.Shelf.Abstract
import Derived.Shelf.RegionOpen
import Derived.OwnWalkIn
import Derived.TacticsInMore
import Derived.LoopNIn
import Derived.LoopIn
import Derived.Deep.CutRange
import Derived.Deep.OwnRows
import Derived.Lib.Walk
import Derived.Lib.SliceRun
import GoSem.Claim
import GoSem.ClaimJoined
import GoSem.ClaimMapViews
import Derived.JoinedTies
import Derived.KernelRfl
import Derived.Lib.LaidTab
import Derived.JoinedCond
import Derived.ShutString
import Derived.ChangeOld
import Derived.Below
import Derived.Carry
import Derived.ChangeSlices
import Derived.Deep.Slices
import Derived.Deep.DeepHandedRow
import Derived.RowKit
import Derived.ChangeShapes
import Derived.SizedLaws
import Derived.ChangeMaps5
import Derived.OrdersHeld
import Derived.Lib.AppendStr
import Derived.Lib.ConvBytes
import Derived.Deep.RegionHeld3
import Derived.Deep.MidRow
import Derived.Laws.BitsAllLaws
import Derived.Sort.Grow
import Derived.Shelf.SlSortCmp.WholeK
import Derived.Shelf.Lay
import Derived.Ground.SlsfProg
import Derived.Sort.LotA
import Derived.Sort.MapsRangeIn
import Derived.RangeFuncSeq
import Derived.RangeFuncKeeps
import Derived.Maps.AppendAt
import Derived.OwnWalk
import Derived.Test.YtpddokbjjhbfgaaGreatRows
import Derived.Test.YtpddokbjjhbfgaaGreatU20
namespace Go.Proofs.YtpddokbjjhbfgaaGreat.ds
open Go.ChangeShapes Go.WideShapes Go.ChangeAt Go.RowKit Go.Sort
set_option linter.unusedVariables false
set_option linter.unusedSimpArgs false

/-- right.Write -/
noncomputable def wrR (c : Cf) (e : E) (xs : List S) : Bool := keyR e.k && decide (((e.v.n : Nat) : Int) ≤ 64) && !(e.d && decide (((e.v.n : Nat) : Int) > 0)) && decide (e.n ≥ 0) && decide (e.n < c.n) && decide (e.c ≥ 1) && decide (e.c ≤ c.c) && setR c xs && !hz xs (e.n, e.c)
set_option maxHeartbeats 16000000 in
set_option maxRecDepth 100000 in
theorem rwrite_ok {w : World} (c : Cf) (e : E) {xs : List S} (h : L w e.x.p e.x.n xs) (hk : e.k.size ≤ 9223372036854775807) : Calls Tryz.prog 31 #[.agg c.a, .agg #[.int .i64 e.n, .int .i64 e.c, .string e.k, .bool e.d, .slice e.v.p e.v.n e.v.c, .slice e.x.p e.x.n e.x.c]] w fun r w' => r = .returned (.bool (wrR c e xs)) ∧ Apart [] w w' := by
  obtain ⟨C, HXC⟩ : ∃ X, Hid (X = w.heap.size) := ⟨_, rfl⟩
  obtain ⟨w1, hw1⟩ : ∃ V, V = w.alloc (.cells c.a 27) := ⟨_, rfl⟩
  obtain ⟨X, HXX⟩ : ∃ X, Hid (X = w1.heap.size) := ⟨_, rfl⟩
  obtain ⟨w2, hw2⟩ : ∃ V, V = w1.alloc (.cells #[.int .i64 e.n, .int .i64 e.c, .string e.k, .bool e.d, .slice e.v.p e.v.n e.v.c, .slice e.x.p e.x.n e.x.c] 38) := ⟨_, rfl⟩
  have a1 : Apart [] w w1 := by rw [hw1]; exact (Apart.refl [] w).alloc _
  have a2 : Apart [] w1 w2 := by rw [hw2]; exact (Apart.refl [] w1).alloc _
  have hC1 : w1.heap[C]? = some (.cells c.a 27 (0, 0)) := by rw [hw1, HXC.out]; exact heap_alloc_new w _
  have hX2 : w2.heap[X]? = some (.cells #[.int .i64 e.n, .int .i64 e.c, .string e.k, .bool e.d, .slice e.v.p e.v.n e.v.c, .slice e.x.p e.x.n e.x.c] 38 (0, 0)) := by rw [hw2, HXX.out]; exact heap_alloc_new w1 _
  have HC2 := hid (keep0 a2 hC1)
  have HX2 := hid hX2
  have HA2 := hid (a1.trans a2)
  have HL2 := hid (h.kept0 (a1.trans a2))
  have e1 : w.heap.size + 1 = X := by rw [HXX.out, hw1]; exact (Array.size_push _).symm
  obtain ⟨kb, Hkb⟩ : ∃ b : Bool, Hid (b = keyR e.k) := ⟨_, rfl⟩
  obtain ⟨sb, Hsb⟩ : ∃ b : Bool, Hid (b = setR c xs) := ⟨_, rfl⟩
  obtain ⟨hb, Hhb⟩ : ∃ b : Bool, Hid (b = hz xs (e.n, e.c)) := ⟨_, rfl⟩
  have HKY : Hid (∀ W, Calls Tryz.prog 33 #[.string e.k] W fun r w' => r = .returned (.bool kb) ∧ w' = W) := fun W => by rw [Hkb.out]; exact rkey_ok W e.k hk
  have HST : Hid (∀ W, Apart [] w2 W → Calls Tryz.prog 34 #[.agg c.a, .slice e.x.p e.x.n e.x.c] W fun r w' => r = .returned (.bool sb) ∧ Apart [] W w') := fun W a => by rw [Hsb.out]; exact rset_ok c (HL2.out.kept0 a)
  have HHS : Hid (∀ W, Apart [] w2 W → Calls Tryz.prog 52 #[.slice e.x.p e.x.n e.x.c, .agg #[.int .i64 e.n, .int .i64 e.c]] W fun r w' => r = .returned (.bool hb) ∧ Apart [] W w') := fun W a => has_any e.n e.c (HL2.out.kept0 a) hb Hhb.out
  have HW : Hid (wrR c e xs = (kb && decide (((e.v.n : Nat) : Int) ≤ 64) && !(e.d && decide (((e.v.n : Nat) : Int) > 0)) && decide (e.n ≥ 0) && decide (e.n < c.n) && decide (e.c ≥ 1) && decide (e.c ≤ c.c) && sb && !hb)) := by unfold Hid wrR; rw [← Hkb.out, ← Hsb.out, ← Hhb.out]
  rw [HW.out]
  clear a1 a2 hC1 hX2 h hk HW Hkb Hsb Hhb
  unfold Cf.a at hw1 HC2 HST ⊢
  cases kb with
  | false =>
    go_enter Tryz.func31, Tryz.ntmps31
    go_upto_region 1 with fail
    rw [← hw1, ← hw2]
    try rw [← HXC.out]
    try rw [e1]
    clear hw1 hw2 e1 HXC HXX
    have d0 := crow HX2.out 0 (.int .i64 e.n) rfl
    have d1 := crow HX2.out 1 (.int .i64 e.c) rfl
    have d2 := crow HX2.out 2 (.string e.k) rfl
    have d3 := crow HX2.out 3 (.bool e.d) rfl
    have d4 := crow HX2.out 4 (.slice e.v.p e.v.n e.v.c) rfl
    have d5 := crow HX2.out 5 (.slice e.x.p e.x.n e.x.c) rfl
    have g0 := crow HC2.out 0 (.int .i64 c.n) rfl
    have g1 := crow HC2.out 1 (.int .i64 c.p) rfl
    have g2 := crow HC2.out 2 (.int .i64 c.r) rfl
    have g3 := crow HC2.out 3 (.int .i64 c.s) rfl
    have g4 := crow HC2.out 4 (.int .i64 c.g) rfl
    have g5 := crow HC2.out 5 (.int .i64 c.c) rfl
    have g6 := crow HC2.out 6 (.int .i64 c.k) rfl
    have g7 := crow HC2.out 7 (.int .i64 c.h) rfl
    have g8 := crow HC2.out 8 (.int .i64 c.b) rfl
    go_wp2_with fail
    refine (HKY.out w2).mono ?_
    rintro _ wn ⟨rfl, hwn⟩
    rw [hwn]
    clear hwn wn
    try dsimp only
    go_wp2_with fail
    go_ret
    exact ⟨by simp, HA2.out⟩
  | true =>
    by_cases t1 : ((e.v.n : Nat) : Int) ≤ 64
    · rw [decide_eq_true t1]
      obtain ⟨dd, Hdd⟩ : ∃ b : Bool, Hid (b = e.d) := ⟨_, rfl⟩
      rw [← Hdd.out] at HX2 hw2 ⊢
      cases dd with
      | true =>
        by_cases t2 : ((e.v.n : Nat) : Int) > 0
        · rw [decide_eq_true t2]
          go_enter Tryz.func31, Tryz.ntmps31
          go_upto_region 1 with fail
          rw [← hw1, ← hw2]
          try rw [← HXC.out]
          try rw [e1]
          clear hw1 hw2 e1 HXC HXX
          have d0 := crow HX2.out 0 (.int .i64 e.n) rfl
          have d1 := crow HX2.out 1 (.int .i64 e.c) rfl
          have d2 := crow HX2.out 2 (.string e.k) rfl
          have d3 := crow HX2.out 3 (.bool true) rfl
          have d4 := crow HX2.out 4 (.slice e.v.p e.v.n e.v.c) rfl
          have d5 := crow HX2.out 5 (.slice e.x.p e.x.n e.x.c) rfl
          have g0 := crow HC2.out 0 (.int .i64 c.n) rfl
          have g1 := crow HC2.out 1 (.int .i64 c.p) rfl
          have g2 := crow HC2.out 2 (.int .i64 c.r) rfl
          have g3 := crow HC2.out 3 (.int .i64 c.s) rfl
          have g4 := crow HC2.out 4 (.int .i64 c.g) rfl
          have g5 := crow HC2.out 5 (.int .i64 c.c) rfl
          have g6 := crow HC2.out 6 (.int .i64 c.k) rfl
          have g7 := crow HC2.out 7 (.int .i64 c.h) rfl
          have g8 := crow HC2.out 8 (.int .i64 c.b) rfl
          go_wp2_with fail
          refine (HKY.out w2).mono ?_
          rintro _ wn ⟨rfl, hwn⟩
          rw [hwn]
          clear hwn wn
          try dsimp only
          go_wp2_with fail
          go_ret
          exact ⟨by simp, HA2.out⟩
        · rw [decide_eq_false t2]
          by_cases t3 : e.n ≥ 0
          · rw [decide_eq_true t3]
            by_cases t4 : e.n < c.n
            · rw [decide_eq_true t4]
              by_cases t5 : e.c ≥ 1
              · rw [decide_eq_true t5]
                by_cases t6 : e.c ≤ c.c
                · rw [decide_eq_true t6]
                  cases sb with
                  | false =>
                    go_enter Tryz.func31, Tryz.ntmps31
                    go_upto_region 1 with fail
                    rw [← hw1, ← hw2]
                    try rw [← HXC.out]
                    try rw [e1]
                    clear hw1 hw2 e1 HXC HXX
                    have d0 := crow HX2.out 0 (.int .i64 e.n) rfl
                    have d1 := crow HX2.out 1 (.int .i64 e.c) rfl
                    have d2 := crow HX2.out 2 (.string e.k) rfl
                    have d3 := crow HX2.out 3 (.bool true) rfl
                    have d4 := crow HX2.out 4 (.slice e.v.p e.v.n e.v.c) rfl
                    have d5 := crow HX2.out 5 (.slice e.x.p e.x.n e.x.c) rfl
                    have g0 := crow HC2.out 0 (.int .i64 c.n) rfl
                    have g1 := crow HC2.out 1 (.int .i64 c.p) rfl
                    have g2 := crow HC2.out 2 (.int .i64 c.r) rfl
                    have g3 := crow HC2.out 3 (.int .i64 c.s) rfl
                    have g4 := crow HC2.out 4 (.int .i64 c.g) rfl
                    have g5 := crow HC2.out 5 (.int .i64 c.c) rfl
                    have g6 := crow HC2.out 6 (.int .i64 c.k) rfl
                    have g7 := crow HC2.out 7 (.int .i64 c.h) rfl
                    have g8 := crow HC2.out 8 (.int .i64 c.b) rfl
                    go_wp2_with fail
                    refine (HKY.out w2).mono ?_
                    rintro _ wn ⟨rfl, hwn⟩
                    rw [hwn]
                    clear hwn wn
                    try dsimp only
                    go_wp2_with fail
                    refine (HST.out w2 (Apart.refl _ _)).mono ?_
                    rintro _ w3 ⟨rfl, a3⟩
                    have HA3 := hid (HA2.out.trans a3)
                    have HX3 := hid (keep0 a3 HX2.out)
                    have HB3 := hid a3
                    clear a3 d0 d1 d2 d3 d4 d5 g0 g1 g2 g3 g4 g5 g6 g7 g8
                    have d0 := crow HX3.out 0 (.int .i64 e.n) rfl
                    have d1 := crow HX3.out 1 (.int .i64 e.c) rfl
                    have d5 := crow HX3.out 5 (.slice e.x.p e.x.n e.x.c) rfl
                    try dsimp only
                    go_wp2_with fail
                    go_ret
                    exact ⟨by simp, HA3.out⟩
                  | true =>
                    go_enter Tryz.func31, Tryz.ntmps31
                    go_upto_region 1 with fail
                    rw [← hw1, ← hw2]
                    try rw [← HXC.out]
                    try rw [e1]
                    clear hw1 hw2 e1 HXC HXX
                    have d0 := crow HX2.out 0 (.int .i64 e.n) rfl
                    have d1 := crow HX2.out 1 (.int .i64 e.c) rfl
                    have d2 := crow HX2.out 2 (.string e.k) rfl
                    have d3 := crow HX2.out 3 (.bool true) rfl
                    have d4 := crow HX2.out 4 (.slice e.v.p e.v.n e.v.c) rfl
                    have d5 := crow HX2.out 5 (.slice e.x.p e.x.n e.x.c) rfl
                    have g0 := crow HC2.out 0 (.int .i64 c.n) rfl
                    have g1 := crow HC2.out 1 (.int .i64 c.p) rfl
                    have g2 := crow HC2.out 2 (.int .i64 c.r) rfl
                    have g3 := crow HC2.out 3 (.int .i64 c.s) rfl
                    have g4 := crow HC2.out 4 (.int .i64 c.g) rfl
                    have g5 := crow HC2.out 5 (.int .i64 c.c) rfl
                    have g6 := crow HC2.out 6 (.int .i64 c.k) rfl
                    have g7 := crow HC2.out 7 (.int .i64 c.h) rfl
                    have g8 := crow HC2.out 8 (.int .i64 c.b) rfl
                    go_wp2_with fail
                    refine (HKY.out w2).mono ?_
                    rintro _ wn ⟨rfl, hwn⟩
                    rw [hwn]
                    clear hwn wn
                    try dsimp only
                    go_wp2_with fail
                    refine (HST.out w2 (Apart.refl _ _)).mono ?_
                    rintro _ w3 ⟨rfl, a3⟩
                    have HA3 := hid (HA2.out.trans a3)
                    have HX3 := hid (keep0 a3 HX2.out)
                    have HB3 := hid a3
                    clear a3 d0 d1 d2 d3 d4 d5 g0 g1 g2 g3 g4 g5 g6 g7 g8
                    have d0 := crow HX3.out 0 (.int .i64 e.n) rfl
                    have d1 := crow HX3.out 1 (.int .i64 e.c) rfl
                    have d5 := crow HX3.out 5 (.slice e.x.p e.x.n e.x.c) rfl
                    try dsimp only
                    go_wp2_with fail
                    refine (HHS.out w3 HB3.out).mono ?_
                    rintro _ w4 ⟨rfl, a4⟩
                    have HA4 := hid (HA3.out.trans a4)
                    clear a4 d0 d1 d5
                    try dsimp only
                    go_wp2_with fail
                    go_ret
                    exact ⟨by simp, HA4.out⟩
                · rw [decide_eq_false t6]
                  go_enter Tryz.func31, Tryz.ntmps31
                  go_upto_region 1 with fail
                  rw [← hw1, ← hw2]
                  try rw [← HXC.out]
                  try rw [e1]
                  clear hw1 hw2 e1 HXC HXX
                  have d0 := crow HX2.out 0 (.int .i64 e.n) rfl
                  have d1 := crow HX2.out 1 (.int .i64 e.c) rfl
                  have d2 := crow HX2.out 2 (.string e.k) rfl
                  have d3 := crow HX2.out 3 (.bool true) rfl
                  have d4 := crow HX2.out 4 (.slice e.v.p e.v.n e.v.c) rfl
                  have d5 := crow HX2.out 5 (.slice e.x.p e.x.n e.x.c) rfl
                  have g0 := crow HC2.out 0 (.int .i64 c.n) rfl
                  have g1 := crow HC2.out 1 (.int .i64 c.p) rfl
                  have g2 := crow HC2.out 2 (.int .i64 c.r) rfl
                  have g3 := crow HC2.out 3 (.int .i64 c.s) rfl
                  have g4 := crow HC2.out 4 (.int .i64 c.g) rfl
                  have g5 := crow HC2.out 5 (.int .i64 c.c) rfl
                  have g6 := crow HC2.out 6 (.int .i64 c.k) rfl
                  have g7 := crow HC2.out 7 (.int .i64 c.h) rfl
                  have g8 := crow HC2.out 8 (.int .i64 c.b) rfl
                  go_wp2_with fail
                  refine (HKY.out w2).mono ?_
                  rintro _ wn ⟨rfl, hwn⟩
                  rw [hwn]
                  clear hwn wn
                  try dsimp only
                  go_wp2_with fail
                  go_ret
                  exact ⟨by simp, HA2.out⟩
              · rw [decide_eq_false t5]
                go_enter Tryz.func31, Tryz.ntmps31
                go_upto_region 1 with fail
                rw [← hw1, ← hw2]
                try rw [← HXC.out]
                try rw [e1]
                clear hw1 hw2 e1 HXC HXX
                have d0 := crow HX2.out 0 (.int .i64 e.n) rfl
                have d1 := crow HX2.out 1 (.int .i64 e.c) rfl
                have d2 := crow HX2.out 2 (.string e.k) rfl
                have d3 := crow HX2.out 3 (.bool true) rfl
                have d4 := crow HX2.out 4 (.slice e.v.p e.v.n e.v.c) rfl
                have d5 := crow HX2.out 5 (.slice e.x.p e.x.n e.x.c) rfl
                have g0 := crow HC2.out 0 (.int .i64 c.n) rfl
                have g1 := crow HC2.out 1 (.int .i64 c.p) rfl
                have g2 := crow HC2.out 2 (.int .i64 c.r) rfl
                have g3 := crow HC2.out 3 (.int .i64 c.s) rfl
                have g4 := crow HC2.out 4 (.int .i64 c.g) rfl
                have g5 := crow HC2.out 5 (.int .i64 c.c) rfl
                have g6 := crow HC2.out 6 (.int .i64 c.k) rfl
                have g7 := crow HC2.out 7 (.int .i64 c.h) rfl
                have g8 := crow HC2.out 8 (.int .i64 c.b) rfl
                go_wp2_with fail
                refine (HKY.out w2).mono ?_
                rintro _ wn ⟨rfl, hwn⟩
                rw [hwn]
                clear hwn wn
                try dsimp only
                go_wp2_with fail
                go_ret
                exact ⟨by simp, HA2.out⟩
            · rw [decide_eq_false t4]
              go_enter Tryz.func31, Tryz.ntmps31
              go_upto_region 1 with fail
              rw [← hw1, ← hw2]
              try rw [← HXC.out]
              try rw [e1]
              clear hw1 hw2 e1 HXC HXX
              have d0 := crow HX2.out 0 (.int .i64 e.n) rfl
              have d1 := crow HX2.out 1 (.int .i64 e.c) rfl
              have d2 := crow HX2.out 2 (.string e.k) rfl
              have d3 := crow HX2.out 3 (.bool true) rfl
              have d4 := crow HX2.out 4 (.slice e.v.p e.v.n e.v.c) rfl
              have d5 := crow HX2.out 5 (.slice e.x.p e.x.n e.x.c) rfl
              have g0 := crow HC2.out 0 (.int .i64 c.n) rfl
              have g1 := crow HC2.out 1 (.int .i64 c.p) rfl
              have g2 := crow HC2.out 2 (.int .i64 c.r) rfl
              have g3 := crow HC2.out 3 (.int .i64 c.s) rfl
              have g4 := crow HC2.out 4 (.int .i64 c.g) rfl
              have g5 := crow HC2.out 5 (.int .i64 c.c) rfl
              have g6 := crow HC2.out 6 (.int .i64 c.k) rfl
              have g7 := crow HC2.out 7 (.int .i64 c.h) rfl
              have g8 := crow HC2.out 8 (.int .i64 c.b) rfl
              go_wp2_with fail
              refine (HKY.out w2).mono ?_
              rintro _ wn ⟨rfl, hwn⟩
              rw [hwn]
              clear hwn wn
              try dsimp only
              go_wp2_with fail
              go_ret
              exact ⟨by simp, HA2.out⟩
          · rw [decide_eq_false t3]
            go_enter Tryz.func31, Tryz.ntmps31
            go_upto_region 1 with fail
            rw [← hw1, ← hw2]
            try rw [← HXC.out]
            try rw [e1]
            clear hw1 hw2 e1 HXC HXX
            have d0 := crow HX2.out 0 (.int .i64 e.n) rfl
            have d1 := crow HX2.out 1 (.int .i64 e.c) rfl
            have d2 := crow HX2.out 2 (.string e.k) rfl
            have d3 := crow HX2.out 3 (.bool true) rfl
            have d4 := crow HX2.out 4 (.slice e.v.p e.v.n e.v.c) rfl
            have d5 := crow HX2.out 5 (.slice e.x.p e.x.n e.x.c) rfl
            have g0 := crow HC2.out 0 (.int .i64 c.n) rfl
            have g1 := crow HC2.out 1 (.int .i64 c.p) rfl
            have g2 := crow HC2.out 2 (.int .i64 c.r) rfl
            have g3 := crow HC2.out 3 (.int .i64 c.s) rfl
            have g4 := crow HC2.out 4 (.int .i64 c.g) rfl
            have g5 := crow HC2.out 5 (.int .i64 c.c) rfl
            have g6 := crow HC2.out 6 (.int .i64 c.k) rfl
            have g7 := crow HC2.out 7 (.int .i64 c.h) rfl
            have g8 := crow HC2.out 8 (.int .i64 c.b) rfl
            go_wp2_with fail
            refine (HKY.out w2).mono ?_
            rintro _ wn ⟨rfl, hwn⟩
            rw [hwn]
            clear hwn wn
            try dsimp only
            go_wp2_with fail
            go_ret
            exact ⟨by simp, HA2.out⟩
      | false =>
        by_cases t3 : e.n ≥ 0
        · rw [decide_eq_true t3]
          by_cases t4 : e.n < c.n
          · rw [decide_eq_true t4]
            by_cases t5 : e.c ≥ 1
            · rw [decide_eq_true t5]
              by_cases t6 : e.c ≤ c.c
              · rw [decide_eq_true t6]
                cases sb with
                | false =>
                  go_enter Tryz.func31, Tryz.ntmps31
                  go_upto_region 1 with fail
                  rw [← hw1, ← hw2]
                  try rw [← HXC.out]
                  try rw [e1]
                  clear hw1 hw2 e1 HXC HXX
                  have d0 := crow HX2.out 0 (.int .i64 e.n) rfl
                  have d1 := crow HX2.out 1 (.int .i64 e.c) rfl
                  have d2 := crow HX2.out 2 (.string e.k) rfl
                  have d3 := crow HX2.out 3 (.bool false) rfl
                  have d4 := crow HX2.out 4 (.slice e.v.p e.v.n e.v.c) rfl
                  have d5 := crow HX2.out 5 (.slice e.x.p e.x.n e.x.c) rfl
                  have g0 := crow HC2.out 0 (.int .i64 c.n) rfl
                  have g1 := crow HC2.out 1 (.int .i64 c.p) rfl
                  have g2 := crow HC2.out 2 (.int .i64 c.r) rfl
                  have g3 := crow HC2.out 3 (.int .i64 c.s) rfl
                  have g4 := crow HC2.out 4 (.int .i64 c.g) rfl
                  have g5 := crow HC2.out 5 (.int .i64 c.c) rfl
                  have g6 := crow HC2.out 6 (.int .i64 c.k) rfl
                  have g7 := crow HC2.out 7 (.int .i64 c.h) rfl
                  have g8 := crow HC2.out 8 (.int .i64 c.b) rfl
                  go_wp2_with fail
                  refine (HKY.out w2).mono ?_
                  rintro _ wn ⟨rfl, hwn⟩
                  rw [hwn]
                  clear hwn wn
                  try dsimp only
                  go_wp2_with fail
                  refine (HST.out w2 (Apart.refl _ _)).mono ?_
                  rintro _ w3 ⟨rfl, a3⟩
                  have HA3 := hid (HA2.out.trans a3)
                  have HX3 := hid (keep0 a3 HX2.out)
                  have HB3 := hid a3
                  clear a3 d0 d1 d2 d3 d4 d5 g0 g1 g2 g3 g4 g5 g6 g7 g8
                  have d0 := crow HX3.out 0 (.int .i64 e.n) rfl
                  have d1 := crow HX3.out 1 (.int .i64 e.c) rfl
                  have d5 := crow HX3.out 5 (.slice e.x.p e.x.n e.x.c) rfl
                  try dsimp only
                  go_wp2_with fail
                  go_ret
                  exact ⟨by simp, HA3.out⟩
                | true =>
                  go_enter Tryz.func31, Tryz.ntmps31
                  go_upto_region 1 with fail
                  rw [← hw1, ← hw2]
                  try rw [← HXC.out]
                  try rw [e1]
                  clear hw1 hw2 e1 HXC HXX
                  have d0 := crow HX2.out 0 (.int .i64 e.n) rfl
                  have d1 := crow HX2.out 1 (.int .i64 e.c) rfl
                  have d2 := crow HX2.out 2 (.string e.k) rfl
                  have d3 := crow HX2.out 3 (.bool false) rfl
                  have d4 := crow HX2.out 4 (.slice e.v.p e.v.n e.v.c) rfl
                  have d5 := crow HX2.out 5 (.slice e.x.p e.x.n e.x.c) rfl
                  have g0 := crow HC2.out 0 (.int .i64 c.n) rfl
                  have g1 := crow HC2.out 1 (.int .i64 c.p) rfl
                  have g2 := crow HC2.out 2 (.int .i64 c.r) rfl
                  have g3 := crow HC2.out 3 (.int .i64 c.s) rfl
                  have g4 := crow HC2.out 4 (.int .i64 c.g) rfl
                  have g5 := crow HC2.out 5 (.int .i64 c.c) rfl
                  have g6 := crow HC2.out 6 (.int .i64 c.k) rfl
                  have g7 := crow HC2.out 7 (.int .i64 c.h) rfl
                  have g8 := crow HC2.out 8 (.int .i64 c.b) rfl
                  go_wp2_with fail
                  refine (HKY.out w2).mono ?_
                  rintro _ wn ⟨rfl, hwn⟩
                  rw [hwn]
                  clear hwn wn
                  try dsimp only
                  go_wp2_with fail
                  refine (HST.out w2 (Apart.refl _ _)).mono ?_
                  rintro _ w3 ⟨rfl, a3⟩
                  have HA3 := hid (HA2.out.trans a3)
                  have HX3 := hid (keep0 a3 HX2.out)
                  have HB3 := hid a3
                  clear a3 d0 d1 d2 d3 d4 d5 g0 g1 g2 g3 g4 g5 g6 g7 g8
                  have d0 := crow HX3.out 0 (.int .i64 e.n) rfl
                  have d1 := crow HX3.out 1 (.int .i64 e.c) rfl
                  have d5 := crow HX3.out 5 (.slice e.x.p e.x.n e.x.c) rfl
                  try dsimp only
                  go_wp2_with fail
                  refine (HHS.out w3 HB3.out).mono ?_
                  rintro _ w4 ⟨rfl, a4⟩
                  have HA4 := hid (HA3.out.trans a4)
                  clear a4 d0 d1 d5
                  try dsimp only
                  go_wp2_with fail
                  go_ret
                  exact ⟨by simp, HA4.out⟩
              · rw [decide_eq_false t6]
                go_enter Tryz.func31, Tryz.ntmps31
                go_upto_region 1 with fail
                rw [← hw1, ← hw2]
                try rw [← HXC.out]
                try rw [e1]
                clear hw1 hw2 e1 HXC HXX
                have d0 := crow HX2.out 0 (.int .i64 e.n) rfl
                have d1 := crow HX2.out 1 (.int .i64 e.c) rfl
                have d2 := crow HX2.out 2 (.string e.k) rfl
                have d3 := crow HX2.out 3 (.bool false) rfl
                have d4 := crow HX2.out 4 (.slice e.v.p e.v.n e.v.c) rfl
                have d5 := crow HX2.out 5 (.slice e.x.p e.x.n e.x.c) rfl
                have g0 := crow HC2.out 0 (.int .i64 c.n) rfl
                have g1 := crow HC2.out 1 (.int .i64 c.p) rfl
                have g2 := crow HC2.out 2 (.int .i64 c.r) rfl
                have g3 := crow HC2.out 3 (.int .i64 c.s) rfl
                have g4 := crow HC2.out 4 (.int .i64 c.g) rfl
                have g5 := crow HC2.out 5 (.int .i64 c.c) rfl
                have g6 := crow HC2.out 6 (.int .i64 c.k) rfl
                have g7 := crow HC2.out 7 (.int .i64 c.h) rfl
                have g8 := crow HC2.out 8 (.int .i64 c.b) rfl
                go_wp2_with fail
                refine (HKY.out w2).mono ?_
                rintro _ wn ⟨rfl, hwn⟩
                rw [hwn]
                clear hwn wn
                try dsimp only
                go_wp2_with fail
                go_ret
                exact ⟨by simp, HA2.out⟩
            · rw [decide_eq_false t5]
              go_enter Tryz.func31, Tryz.ntmps31
              go_upto_region 1 with fail
              rw [← hw1, ← hw2]
              try rw [← HXC.out]
              try rw [e1]
              clear hw1 hw2 e1 HXC HXX
              have d0 := crow HX2.out 0 (.int .i64 e.n) rfl
              have d1 := crow HX2.out 1 (.int .i64 e.c) rfl
              have d2 := crow HX2.out 2 (.string e.k) rfl
              have d3 := crow HX2.out 3 (.bool false) rfl
              have d4 := crow HX2.out 4 (.slice e.v.p e.v.n e.v.c) rfl
              have d5 := crow HX2.out 5 (.slice e.x.p e.x.n e.x.c) rfl
              have g0 := crow HC2.out 0 (.int .i64 c.n) rfl
              have g1 := crow HC2.out 1 (.int .i64 c.p) rfl
              have g2 := crow HC2.out 2 (.int .i64 c.r) rfl
              have g3 := crow HC2.out 3 (.int .i64 c.s) rfl
              have g4 := crow HC2.out 4 (.int .i64 c.g) rfl
              have g5 := crow HC2.out 5 (.int .i64 c.c) rfl
              have g6 := crow HC2.out 6 (.int .i64 c.k) rfl
              have g7 := crow HC2.out 7 (.int .i64 c.h) rfl
              have g8 := crow HC2.out 8 (.int .i64 c.b) rfl
              go_wp2_with fail
              refine (HKY.out w2).mono ?_
              rintro _ wn ⟨rfl, hwn⟩
              rw [hwn]
              clear hwn wn
              try dsimp only
              go_wp2_with fail
              go_ret
              exact ⟨by simp, HA2.out⟩
          · rw [decide_eq_false t4]
            go_enter Tryz.func31, Tryz.ntmps31
            go_upto_region 1 with fail
            rw [← hw1, ← hw2]
            try rw [← HXC.out]
            try rw [e1]
            clear hw1 hw2 e1 HXC HXX
            have d0 := crow HX2.out 0 (.int .i64 e.n) rfl
            have d1 := crow HX2.out 1 (.int .i64 e.c) rfl
            have d2 := crow HX2.out 2 (.string e.k) rfl
            have d3 := crow HX2.out 3 (.bool false) rfl
            have d4 := crow HX2.out 4 (.slice e.v.p e.v.n e.v.c) rfl
            have d5 := crow HX2.out 5 (.slice e.x.p e.x.n e.x.c) rfl
            have g0 := crow HC2.out 0 (.int .i64 c.n) rfl
            have g1 := crow HC2.out 1 (.int .i64 c.p) rfl
            have g2 := crow HC2.out 2 (.int .i64 c.r) rfl
            have g3 := crow HC2.out 3 (.int .i64 c.s) rfl
            have g4 := crow HC2.out 4 (.int .i64 c.g) rfl
            have g5 := crow HC2.out 5 (.int .i64 c.c) rfl
            have g6 := crow HC2.out 6 (.int .i64 c.k) rfl
            have g7 := crow HC2.out 7 (.int .i64 c.h) rfl
            have g8 := crow HC2.out 8 (.int .i64 c.b) rfl
            go_wp2_with fail
            refine (HKY.out w2).mono ?_
            rintro _ wn ⟨rfl, hwn⟩
            rw [hwn]
            clear hwn wn
            try dsimp only
            go_wp2_with fail
            go_ret
            exact ⟨by simp, HA2.out⟩
        · rw [decide_eq_false t3]
          go_enter Tryz.func31, Tryz.ntmps31
          go_upto_region 1 with fail
          rw [← hw1, ← hw2]
          try rw [← HXC.out]
          try rw [e1]
          clear hw1 hw2 e1 HXC HXX
          have d0 := crow HX2.out 0 (.int .i64 e.n) rfl
          have d1 := crow HX2.out 1 (.int .i64 e.c) rfl
          have d2 := crow HX2.out 2 (.string e.k) rfl
          have d3 := crow HX2.out 3 (.bool false) rfl
          have d4 := crow HX2.out 4 (.slice e.v.p e.v.n e.v.c) rfl
          have d5 := crow HX2.out 5 (.slice e.x.p e.x.n e.x.c) rfl
          have g0 := crow HC2.out 0 (.int .i64 c.n) rfl
          have g1 := crow HC2.out 1 (.int .i64 c.p) rfl
          have g2 := crow HC2.out 2 (.int .i64 c.r) rfl
          have g3 := crow HC2.out 3 (.int .i64 c.s) rfl
          have g4 := crow HC2.out 4 (.int .i64 c.g) rfl
          have g5 := crow HC2.out 5 (.int .i64 c.c) rfl
          have g6 := crow HC2.out 6 (.int .i64 c.k) rfl
          have g7 := crow HC2.out 7 (.int .i64 c.h) rfl
          have g8 := crow HC2.out 8 (.int .i64 c.b) rfl
          go_wp2_with fail
          refine (HKY.out w2).mono ?_
          rintro _ wn ⟨rfl, hwn⟩
          rw [hwn]
          clear hwn wn
          try dsimp only
          go_wp2_with fail
          go_ret
          exact ⟨by simp, HA2.out⟩
    · rw [decide_eq_false t1]
      go_enter Tryz.func31, Tryz.ntmps31
      go_upto_region 1 with fail
      rw [← hw1, ← hw2]
      try rw [← HXC.out]
      try rw [e1]
      clear hw1 hw2 e1 HXC HXX
      have d0 := crow HX2.out 0 (.int .i64 e.n) rfl
      have d1 := crow HX2.out 1 (.int .i64 e.c) rfl
      have d2 := crow HX2.out 2 (.string e.k) rfl
      have d3 := crow HX2.out 3 (.bool e.d) rfl
      have d4 := crow HX2.out 4 (.slice e.v.p e.v.n e.v.c) rfl
      have d5 := crow HX2.out 5 (.slice e.x.p e.x.n e.x.c) rfl
      have g0 := crow HC2.out 0 (.int .i64 c.n) rfl
      have g1 := crow HC2.out 1 (.int .i64 c.p) rfl
      have g2 := crow HC2.out 2 (.int .i64 c.r) rfl
      have g3 := crow HC2.out 3 (.int .i64 c.s) rfl
      have g4 := crow HC2.out 4 (.int .i64 c.g) rfl
      have g5 := crow HC2.out 5 (.int .i64 c.c) rfl
      have g6 := crow HC2.out 6 (.int .i64 c.k) rfl
      have g7 := crow HC2.out 7 (.int .i64 c.h) rfl
      have g8 := crow HC2.out 8 (.int .i64 c.b) rfl
      go_wp2_with fail
      refine (HKY.out w2).mono ?_
      rintro _ wn ⟨rfl, hwn⟩
      rw [hwn]
      clear hwn wn
      try dsimp only
      go_wp2_with fail
      go_ret
      exact ⟨by simp, HA2.out⟩
end Go.Proofs.YtpddokbjjhbfgaaGreat.ds
