import Derived.Test.YtpddokbjjhbfgaaGreatChecked
import Derived.WalkKit
import Derived.ProofKit
import Derived.Maps.OwnSet
import Derived.Maps.RangeWalk
import Derived.DeepKeys4
import Derived.MapViews
import Derived.StringKeys
import Derived.Lib.TrailingZeros
import Derived.OpenShut
import Derived.Deep.QuietTactic
import Derived.BigQuiet
import Derived.BigRegion
import Derived.Laws.CopyOwn
import Derived.Laws.Bits64b
import Derived.Laws.MathBits
import Derived.Laws.ShiftsVarLaws
import Derived.WalkSmall
import Derived.Laws.ResultCell
import Derived.Lib.BitFns
import Derived.Laws.StructEq
import Derived.Deep.RegionHeld
import Derived.ArgAppend
import Derived.Deep.RegionLaw
import Derived.Deep.DeepAppendRoom
import Derived.Sort.WalkA
import Derived.Laws.Strings
import Derived.Deep.CutBlock
import Derived.Great.BuildSlice
import Derived.Laws.AppendOwnNone
import Derived.Laws.BytesString
import Derived.Lib.Overlaps
import Derived.Lib.AppendZerosOnto
import Derived.Laws.NewBlocks
import Derived.Laws.Externs
import Derived.Laws.IdiomCopy
import Derived.RangeFuncNested
import Derived.RangeFuncBound
import Derived.RangeFuncCalls
import Derived.RangeFuncLeaves
import Derived.Shelf.Abstract
import Derived.Shelf.RegionOpen
import Derived.OwnWalkIn
import Derived.TacticsInMore
import Derived.LoopNIn
import Derived.LoopIn
import Derived.Deep.CutRange
import Derived.Deep.OwnRows
import Derived.Lib.Walk
import Derived.Lib.SliceRun
import GoSem.Claim
import GoSem.ClaimJoined
import GoSem.ClaimMapViews
import Derived.JoinedTies
import Derived.KernelRfl
import Derived.Lib.LaidTab
import Derived.JoinedCond
import Derived.ShutString
import Derived.ChangeOld
import Derived.Below
import Derived.Carry
import Derived.ChangeSlices
import Derived.Deep.Slices
import Derived.Deep.DeepHandedRow
import Derived.RowKit
import Derived.ChangeShapes
import Derived.SizedLaws
import Derived.ChangeMaps5
import Derived.OrdersHeld
import Derived.Lib.AppendStr
import Derived.Lib.ConvBytes
import Derived.Deep.RegionHeld3
import Derived.Deep.MidRow
import Derived.Laws.BitsAllLaws
import Derived.Sort.Grow
import Derived.Shelf.SlSortCmp.WholeK
import Derived.Shelf.Lay
import Derived.Ground.SlsfProg
import Derived.Sort.LotA
import Derived.Sort.MapsRangeIn
import Derived.RangeFuncSeq
import Derived.RangeFuncKeeps
import Derived.Maps.AppendAt
import Derived.OwnWalk
import Derived.Test.YtpddokbjjhbfgaaGreatRows
import Derived.Test.YtpddokbjjhbfgaaGreatV16
import Derived.Test.YtpddokbjjhbfgaaGreatV21
namespace Go.Proofs.YtpddokbjjhbfgaaGreat.ds
open Go.ChangeShapes Go.WideShapes Go.ChangeAt Go.RowKit Go.Sort
set_option linter.unusedVariables false
set_option linter.unusedSimpArgs false

/-- Config.Right -/
def CR (c : Cf) : Bool := decide (c.n ≥ 1) && decide (c.n ≤ 8) && decide (c.p ≥ 1) && decide (c.p ≤ 5) && decide (c.p ≤ c.n) && decide (c.r ≥ 1) && decide (c.r ≤ 16) && decide (c.s ≥ 1) && decide (c.s ≤ 8) && decide (c.g ≥ 1) && decide (c.g ≤ 64) && decide (c.c ≥ 1) && decide (c.c ≤ 1048576) && decide (c.k ≥ 1) && decide (c.k ≤ 64) && decide (c.h ≥ 0) && decide (c.h ≤ 32) && decide (c.b ≥ 1) && decide (c.b ≤ 256)
set_option maxHeartbeats 16000000 in
set_option maxRecDepth 100000 in
theorem right30 (w : World) (c : Cf) : Calls Tryz.prog 30 #[.agg c.a] w fun r w' => r = .returned (.bool (CR c)) ∧ Apart [] w w' := by
  obtain ⟨C, HXC⟩ : ∃ X, Hid (X = w.heap.size) := ⟨_, rfl⟩
  obtain ⟨w1, hw1⟩ : ∃ V, V = w.alloc (.cells c.a 27) := ⟨_, rfl⟩
  have a1 : Apart [] w w1 := by rw [hw1]; exact (Apart.refl [] w).alloc _
  have hC1 : w1.heap[C]? = some (.cells c.a 27 (0, 0)) := by rw [hw1, HXC.out]; exact heap_alloc_new w _
  have HC1 := hid hC1
  have HA1 := hid a1
  clear a1 hC1
  unfold CR
  unfold Cf.a at hw1 HC1 ⊢
  by_cases t0 : c.n ≥ 1
  · rw [decide_eq_true t0]
    by_cases t1 : c.n ≤ 8
    · rw [decide_eq_true t1]
      by_cases t2 : c.p ≥ 1
      · rw [decide_eq_true t2]
        by_cases t3 : c.p ≤ 5
        · rw [decide_eq_true t3]
          by_cases t4 : c.p ≤ c.n
          · rw [decide_eq_true t4]
            by_cases t5 : c.r ≥ 1
            · rw [decide_eq_true t5]
              by_cases t6 : c.r ≤ 16
              · rw [decide_eq_true t6]
                by_cases t7 : c.s ≥ 1
                · rw [decide_eq_true t7]
                  by_cases t8 : c.s ≤ 8
                  · rw [decide_eq_true t8]
                    by_cases t9 : c.g ≥ 1
                    · rw [decide_eq_true t9]
                      by_cases t10 : c.g ≤ 64
                      · rw [decide_eq_true t10]
                        by_cases t11 : c.c ≥ 1
                        · rw [decide_eq_true t11]
                          by_cases t12 : c.c ≤ 1048576
                          · rw [decide_eq_true t12]
                            by_cases t13 : c.k ≥ 1
                            · rw [decide_eq_true t13]
                              by_cases t14 : c.k ≤ 64
                              · rw [decide_eq_true t14]
                                by_cases t15 : c.h ≥ 0
                                · rw [decide_eq_true t15]
                                  by_cases t16 : c.h ≤ 32
                                  · rw [decide_eq_true t16]
                                    by_cases t17 : c.b ≥ 1
                                    · rw [decide_eq_true t17]
                                      by_cases t18 : c.b ≤ 256
                                      · rw [decide_eq_true t18]
                                        go_enter Tryz.func30, Tryz.ntmps30
                                        go_upto_region 1 with fail
                                        rw [← hw1, ← HXC.out]
                                        clear hw1 HXC
                                        have g0 := crow HC1.out 0 (.int .i64 c.n) rfl
                                        have g1 := crow HC1.out 1 (.int .i64 c.p) rfl
                                        have g2 := crow HC1.out 2 (.int .i64 c.r) rfl
                                        have g3 := crow HC1.out 3 (.int .i64 c.s) rfl
                                        have g4 := crow HC1.out 4 (.int .i64 c.g) rfl
                                        have g5 := crow HC1.out 5 (.int .i64 c.c) rfl
                                        have g6 := crow HC1.out 6 (.int .i64 c.k) rfl
                                        have g7 := crow HC1.out 7 (.int .i64 c.h) rfl
                                        have g8 := crow HC1.out 8 (.int .i64 c.b) rfl
                                        go_wp2_with fail
                                        go_ret
                                        exact ⟨by simp, HA1.out⟩
                                      · rw [decide_eq_false t18]
                                        go_enter Tryz.func30, Tryz.ntmps30
                                        go_upto_region 1 with fail
                                        rw [← hw1, ← HXC.out]
                                        clear hw1 HXC
                                        have g0 := crow HC1.out 0 (.int .i64 c.n) rfl
                                        have g1 := crow HC1.out 1 (.int .i64 c.p) rfl
                                        have g2 := crow HC1.out 2 (.int .i64 c.r) rfl
                                        have g3 := crow HC1.out 3 (.int .i64 c.s) rfl
                                        have g4 := crow HC1.out 4 (.int .i64 c.g) rfl
                                        have g5 := crow HC1.out 5 (.int .i64 c.c) rfl
                                        have g6 := crow HC1.out 6 (.int .i64 c.k) rfl
                                        have g7 := crow HC1.out 7 (.int .i64 c.h) rfl
                                        have g8 := crow HC1.out 8 (.int .i64 c.b) rfl
                                        go_wp2_with fail
                                        go_ret
                                        exact ⟨by simp, HA1.out⟩
                                    · rw [decide_eq_false t17]
                                      go_enter Tryz.func30, Tryz.ntmps30
                                      go_upto_region 1 with fail
                                      rw [← hw1, ← HXC.out]
                                      clear hw1 HXC
                                      have g0 := crow HC1.out 0 (.int .i64 c.n) rfl
                                      have g1 := crow HC1.out 1 (.int .i64 c.p) rfl
                                      have g2 := crow HC1.out 2 (.int .i64 c.r) rfl
                                      have g3 := crow HC1.out 3 (.int .i64 c.s) rfl
                                      have g4 := crow HC1.out 4 (.int .i64 c.g) rfl
                                      have g5 := crow HC1.out 5 (.int .i64 c.c) rfl
                                      have g6 := crow HC1.out 6 (.int .i64 c.k) rfl
                                      have g7 := crow HC1.out 7 (.int .i64 c.h) rfl
                                      have g8 := crow HC1.out 8 (.int .i64 c.b) rfl
                                      go_wp2_with fail
                                      go_ret
                                      exact ⟨by simp, HA1.out⟩
                                  · rw [decide_eq_false t16]
                                    go_enter Tryz.func30, Tryz.ntmps30
                                    go_upto_region 1 with fail
                                    rw [← hw1, ← HXC.out]
                                    clear hw1 HXC
                                    have g0 := crow HC1.out 0 (.int .i64 c.n) rfl
                                    have g1 := crow HC1.out 1 (.int .i64 c.p) rfl
                                    have g2 := crow HC1.out 2 (.int .i64 c.r) rfl
                                    have g3 := crow HC1.out 3 (.int .i64 c.s) rfl
                                    have g4 := crow HC1.out 4 (.int .i64 c.g) rfl
                                    have g5 := crow HC1.out 5 (.int .i64 c.c) rfl
                                    have g6 := crow HC1.out 6 (.int .i64 c.k) rfl
                                    have g7 := crow HC1.out 7 (.int .i64 c.h) rfl
                                    have g8 := crow HC1.out 8 (.int .i64 c.b) rfl
                                    go_wp2_with fail
                                    go_ret
                                    exact ⟨by simp, HA1.out⟩
                                · rw [decide_eq_false t15]
                                  go_enter Tryz.func30, Tryz.ntmps30
                                  go_upto_region 1 with fail
                                  rw [← hw1, ← HXC.out]
                                  clear hw1 HXC
                                  have g0 := crow HC1.out 0 (.int .i64 c.n) rfl
                                  have g1 := crow HC1.out 1 (.int .i64 c.p) rfl
                                  have g2 := crow HC1.out 2 (.int .i64 c.r) rfl
                                  have g3 := crow HC1.out 3 (.int .i64 c.s) rfl
                                  have g4 := crow HC1.out 4 (.int .i64 c.g) rfl
                                  have g5 := crow HC1.out 5 (.int .i64 c.c) rfl
                                  have g6 := crow HC1.out 6 (.int .i64 c.k) rfl
                                  have g7 := crow HC1.out 7 (.int .i64 c.h) rfl
                                  have g8 := crow HC1.out 8 (.int .i64 c.b) rfl
                                  go_wp2_with fail
                                  go_ret
                                  exact ⟨by simp, HA1.out⟩
                              · rw [decide_eq_false t14]
                                go_enter Tryz.func30, Tryz.ntmps30
                                go_upto_region 1 with fail
                                rw [← hw1, ← HXC.out]
                                clear hw1 HXC
                                have g0 := crow HC1.out 0 (.int .i64 c.n) rfl
                                have g1 := crow HC1.out 1 (.int .i64 c.p) rfl
                                have g2 := crow HC1.out 2 (.int .i64 c.r) rfl
                                have g3 := crow HC1.out 3 (.int .i64 c.s) rfl
                                have g4 := crow HC1.out 4 (.int .i64 c.g) rfl
                                have g5 := crow HC1.out 5 (.int .i64 c.c) rfl
                                have g6 := crow HC1.out 6 (.int .i64 c.k) rfl
                                have g7 := crow HC1.out 7 (.int .i64 c.h) rfl
                                have g8 := crow HC1.out 8 (.int .i64 c.b) rfl
                                go_wp2_with fail
                                go_ret
                                exact ⟨by simp, HA1.out⟩
                            · rw [decide_eq_false t13]
                              go_enter Tryz.func30, Tryz.ntmps30
                              go_upto_region 1 with fail
                              rw [← hw1, ← HXC.out]
                              clear hw1 HXC
                              have g0 := crow HC1.out 0 (.int .i64 c.n) rfl
                              have g1 := crow HC1.out 1 (.int .i64 c.p) rfl
                              have g2 := crow HC1.out 2 (.int .i64 c.r) rfl
                              have g3 := crow HC1.out 3 (.int .i64 c.s) rfl
                              have g4 := crow HC1.out 4 (.int .i64 c.g) rfl
                              have g5 := crow HC1.out 5 (.int .i64 c.c) rfl
                              have g6 := crow HC1.out 6 (.int .i64 c.k) rfl
                              have g7 := crow HC1.out 7 (.int .i64 c.h) rfl
                              have g8 := crow HC1.out 8 (.int .i64 c.b) rfl
                              go_wp2_with fail
                              go_ret
                              exact ⟨by simp, HA1.out⟩
                          · rw [decide_eq_false t12]
                            go_enter Tryz.func30, Tryz.ntmps30
                            go_upto_region 1 with fail
                            rw [← hw1, ← HXC.out]
                            clear hw1 HXC
                            have g0 := crow HC1.out 0 (.int .i64 c.n) rfl
                            have g1 := crow HC1.out 1 (.int .i64 c.p) rfl
                            have g2 := crow HC1.out 2 (.int .i64 c.r) rfl
                            have g3 := crow HC1.out 3 (.int .i64 c.s) rfl
                            have g4 := crow HC1.out 4 (.int .i64 c.g) rfl
                            have g5 := crow HC1.out 5 (.int .i64 c.c) rfl
                            have g6 := crow HC1.out 6 (.int .i64 c.k) rfl
                            have g7 := crow HC1.out 7 (.int .i64 c.h) rfl
                            have g8 := crow HC1.out 8 (.int .i64 c.b) rfl
                            go_wp2_with fail
                            go_ret
                            exact ⟨by simp, HA1.out⟩
                        · rw [decide_eq_false t11]
                          go_enter Tryz.func30, Tryz.ntmps30
                          go_upto_region 1 with fail
                          rw [← hw1, ← HXC.out]
                          clear hw1 HXC
                          have g0 := crow HC1.out 0 (.int .i64 c.n) rfl
                          have g1 := crow HC1.out 1 (.int .i64 c.p) rfl
                          have g2 := crow HC1.out 2 (.int .i64 c.r) rfl
                          have g3 := crow HC1.out 3 (.int .i64 c.s) rfl
                          have g4 := crow HC1.out 4 (.int .i64 c.g) rfl
                          have g5 := crow HC1.out 5 (.int .i64 c.c) rfl
                          have g6 := crow HC1.out 6 (.int .i64 c.k) rfl
                          have g7 := crow HC1.out 7 (.int .i64 c.h) rfl
                          have g8 := crow HC1.out 8 (.int .i64 c.b) rfl
                          go_wp2_with fail
                          go_ret
                          exact ⟨by simp, HA1.out⟩
                      · rw [decide_eq_false t10]
                        go_enter Tryz.func30, Tryz.ntmps30
                        go_upto_region 1 with fail
                        rw [← hw1, ← HXC.out]
                        clear hw1 HXC
                        have g0 := crow HC1.out 0 (.int .i64 c.n) rfl
                        have g1 := crow HC1.out 1 (.int .i64 c.p) rfl
                        have g2 := crow HC1.out 2 (.int .i64 c.r) rfl
                        have g3 := crow HC1.out 3 (.int .i64 c.s) rfl
                        have g4 := crow HC1.out 4 (.int .i64 c.g) rfl
                        have g5 := crow HC1.out 5 (.int .i64 c.c) rfl
                        have g6 := crow HC1.out 6 (.int .i64 c.k) rfl
                        have g7 := crow HC1.out 7 (.int .i64 c.h) rfl
                        have g8 := crow HC1.out 8 (.int .i64 c.b) rfl
                        go_wp2_with fail
                        go_ret
                        exact ⟨by simp, HA1.out⟩
                    · rw [decide_eq_false t9]
                      go_enter Tryz.func30, Tryz.ntmps30
                      go_upto_region 1 with fail
                      rw [← hw1, ← HXC.out]
                      clear hw1 HXC
                      have g0 := crow HC1.out 0 (.int .i64 c.n) rfl
                      have g1 := crow HC1.out 1 (.int .i64 c.p) rfl
                      have g2 := crow HC1.out 2 (.int .i64 c.r) rfl
                      have g3 := crow HC1.out 3 (.int .i64 c.s) rfl
                      have g4 := crow HC1.out 4 (.int .i64 c.g) rfl
                      have g5 := crow HC1.out 5 (.int .i64 c.c) rfl
                      have g6 := crow HC1.out 6 (.int .i64 c.k) rfl
                      have g7 := crow HC1.out 7 (.int .i64 c.h) rfl
                      have g8 := crow HC1.out 8 (.int .i64 c.b) rfl
                      go_wp2_with fail
                      go_ret
                      exact ⟨by simp, HA1.out⟩
                  · rw [decide_eq_false t8]
                    go_enter Tryz.func30, Tryz.ntmps30
                    go_upto_region 1 with fail
                    rw [← hw1, ← HXC.out]
                    clear hw1 HXC
                    have g0 := crow HC1.out 0 (.int .i64 c.n) rfl
                    have g1 := crow HC1.out 1 (.int .i64 c.p) rfl
                    have g2 := crow HC1.out 2 (.int .i64 c.r) rfl
                    have g3 := crow HC1.out 3 (.int .i64 c.s) rfl
                    have g4 := crow HC1.out 4 (.int .i64 c.g) rfl
                    have g5 := crow HC1.out 5 (.int .i64 c.c) rfl
                    have g6 := crow HC1.out 6 (.int .i64 c.k) rfl
                    have g7 := crow HC1.out 7 (.int .i64 c.h) rfl
                    have g8 := crow HC1.out 8 (.int .i64 c.b) rfl
                    go_wp2_with fail
                    go_ret
                    exact ⟨by simp, HA1.out⟩
                · rw [decide_eq_false t7]
                  go_enter Tryz.func30, Tryz.ntmps30
                  go_upto_region 1 with fail
                  rw [← hw1, ← HXC.out]
                  clear hw1 HXC
                  have g0 := crow HC1.out 0 (.int .i64 c.n) rfl
                  have g1 := crow HC1.out 1 (.int .i64 c.p) rfl
                  have g2 := crow HC1.out 2 (.int .i64 c.r) rfl
                  have g3 := crow HC1.out 3 (.int .i64 c.s) rfl
                  have g4 := crow HC1.out 4 (.int .i64 c.g) rfl
                  have g5 := crow HC1.out 5 (.int .i64 c.c) rfl
                  have g6 := crow HC1.out 6 (.int .i64 c.k) rfl
                  have g7 := crow HC1.out 7 (.int .i64 c.h) rfl
                  have g8 := crow HC1.out 8 (.int .i64 c.b) rfl
                  go_wp2_with fail
                  go_ret
                  exact ⟨by simp, HA1.out⟩
              · rw [decide_eq_false t6]
                go_enter Tryz.func30, Tryz.ntmps30
                go_upto_region 1 with fail
                rw [← hw1, ← HXC.out]
                clear hw1 HXC
                have g0 := crow HC1.out 0 (.int .i64 c.n) rfl
                have g1 := crow HC1.out 1 (.int .i64 c.p) rfl
                have g2 := crow HC1.out 2 (.int .i64 c.r) rfl
                have g3 := crow HC1.out 3 (.int .i64 c.s) rfl
                have g4 := crow HC1.out 4 (.int .i64 c.g) rfl
                have g5 := crow HC1.out 5 (.int .i64 c.c) rfl
                have g6 := crow HC1.out 6 (.int .i64 c.k) rfl
                have g7 := crow HC1.out 7 (.int .i64 c.h) rfl
                have g8 := crow HC1.out 8 (.int .i64 c.b) rfl
                go_wp2_with fail
                go_ret
                exact ⟨by simp, HA1.out⟩
            · rw [decide_eq_false t5]
              go_enter Tryz.func30, Tryz.ntmps30
              go_upto_region 1 with fail
              rw [← hw1, ← HXC.out]
              clear hw1 HXC
              have g0 := crow HC1.out 0 (.int .i64 c.n) rfl
              have g1 := crow HC1.out 1 (.int .i64 c.p) rfl
              have g2 := crow HC1.out 2 (.int .i64 c.r) rfl
              have g3 := crow HC1.out 3 (.int .i64 c.s) rfl
              have g4 := crow HC1.out 4 (.int .i64 c.g) rfl
              have g5 := crow HC1.out 5 (.int .i64 c.c) rfl
              have g6 := crow HC1.out 6 (.int .i64 c.k) rfl
              have g7 := crow HC1.out 7 (.int .i64 c.h) rfl
              have g8 := crow HC1.out 8 (.int .i64 c.b) rfl
              go_wp2_with fail
              go_ret
              exact ⟨by simp, HA1.out⟩
          · rw [decide_eq_false t4]
            go_enter Tryz.func30, Tryz.ntmps30
            go_upto_region 1 with fail
            rw [← hw1, ← HXC.out]
            clear hw1 HXC
            have g0 := crow HC1.out 0 (.int .i64 c.n) rfl
            have g1 := crow HC1.out 1 (.int .i64 c.p) rfl
            have g2 := crow HC1.out 2 (.int .i64 c.r) rfl
            have g3 := crow HC1.out 3 (.int .i64 c.s) rfl
            have g4 := crow HC1.out 4 (.int .i64 c.g) rfl
            have g5 := crow HC1.out 5 (.int .i64 c.c) rfl
            have g6 := crow HC1.out 6 (.int .i64 c.k) rfl
            have g7 := crow HC1.out 7 (.int .i64 c.h) rfl
            have g8 := crow HC1.out 8 (.int .i64 c.b) rfl
            go_wp2_with fail
            go_ret
            exact ⟨by simp, HA1.out⟩
        · rw [decide_eq_false t3]
          go_enter Tryz.func30, Tryz.ntmps30
          go_upto_region 1 with fail
          rw [← hw1, ← HXC.out]
          clear hw1 HXC
          have g0 := crow HC1.out 0 (.int .i64 c.n) rfl
          have g1 := crow HC1.out 1 (.int .i64 c.p) rfl
          have g2 := crow HC1.out 2 (.int .i64 c.r) rfl
          have g3 := crow HC1.out 3 (.int .i64 c.s) rfl
          have g4 := crow HC1.out 4 (.int .i64 c.g) rfl
          have g5 := crow HC1.out 5 (.int .i64 c.c) rfl
          have g6 := crow HC1.out 6 (.int .i64 c.k) rfl
          have g7 := crow HC1.out 7 (.int .i64 c.h) rfl
          have g8 := crow HC1.out 8 (.int .i64 c.b) rfl
          go_wp2_with fail
          go_ret
          exact ⟨by simp, HA1.out⟩
      · rw [decide_eq_false t2]
        go_enter Tryz.func30, Tryz.ntmps30
        go_upto_region 1 with fail
        rw [← hw1, ← HXC.out]
        clear hw1 HXC
        have g0 := crow HC1.out 0 (.int .i64 c.n) rfl
        have g1 := crow HC1.out 1 (.int .i64 c.p) rfl
        have g2 := crow HC1.out 2 (.int .i64 c.r) rfl
        have g3 := crow HC1.out 3 (.int .i64 c.s) rfl
        have g4 := crow HC1.out 4 (.int .i64 c.g) rfl
        have g5 := crow HC1.out 5 (.int .i64 c.c) rfl
        have g6 := crow HC1.out 6 (.int .i64 c.k) rfl
        have g7 := crow HC1.out 7 (.int .i64 c.h) rfl
        have g8 := crow HC1.out 8 (.int .i64 c.b) rfl
        go_wp2_with fail
        go_ret
        exact ⟨by simp, HA1.out⟩
    · rw [decide_eq_false t1]
      go_enter Tryz.func30, Tryz.ntmps30
      go_upto_region 1 with fail
      rw [← hw1, ← HXC.out]
      clear hw1 HXC
      have g0 := crow HC1.out 0 (.int .i64 c.n) rfl
      have g1 := crow HC1.out 1 (.int .i64 c.p) rfl
      have g2 := crow HC1.out 2 (.int .i64 c.r) rfl
      have g3 := crow HC1.out 3 (.int .i64 c.s) rfl
      have g4 := crow HC1.out 4 (.int .i64 c.g) rfl
      have g5 := crow HC1.out 5 (.int .i64 c.c) rfl
      have g6 := crow HC1.out 6 (.int .i64 c.k) rfl
      have g7 := crow HC1.out 7 (.int .i64 c.h) rfl
      have g8 := crow HC1.out 8 (.int .i64 c.b) rfl
      go_wp2_with fail
      go_ret
      exact ⟨by simp, HA1.out⟩
  · rw [decide_eq_false t0]
    go_enter Tryz.func30, Tryz.ntmps30
    go_upto_region 1 with fail
    rw [← hw1, ← HXC.out]
    clear hw1 HXC
    have g0 := crow HC1.out 0 (.int .i64 c.n) rfl
    have g1 := crow HC1.out 1 (.int .i64 c.p) rfl
    have g2 := crow HC1.out 2 (.int .i64 c.r) rfl
    have g3 := crow HC1.out 3 (.int .i64 c.s) rfl
    have g4 := crow HC1.out 4 (.int .i64 c.g) rfl
    have g5 := crow HC1.out 5 (.int .i64 c.c) rfl
    have g6 := crow HC1.out 6 (.int .i64 c.k) rfl
    have g7 := crow HC1.out 7 (.int .i64 c.h) rfl
    have g8 := crow HC1.out 8 (.int .i64 c.b) rfl
    go_wp2_with fail
    go_ret
    exact ⟨by simp, HA1.out⟩
end Go.Proofs.YtpddokbjjhbfgaaGreat.ds
