import Derived.Test.YtpddokbjjhbfgaaGreatChecked
import Derived.WalkKit
import Derived.ProofKit
import Derived.Maps.OwnSet
import Derived.Maps.RangeWalk
import Derived.DeepKeys4
import Derived.MapViews
import Derived.StringKeys
import Derived.Lib.TrailingZeros
import Derived.OpenShut
import Derived.Deep.QuietTactic
import Derived.BigQuiet
import Derived.BigRegion
import Derived.Laws.CopyOwn
import Derived.Laws.Bits64b
import Derived.Laws.MathBits
import Derived.Laws.ShiftsVarLaws
import Derived.WalkSmall
import Derived.Laws.ResultCell
import Derived.Lib.BitFns
import Derived.Laws.StructEq
import Derived.Deep.RegionHeld
import Derived.ArgAppend
import Derived.Deep.RegionLaw
import Derived.Deep.DeepAppendRoom
import Derived.Sort.WalkA
import Derived.Laws.Strings
import Derived.Deep.CutBlock
import Derived.Great.BuildSlice
import Derived.Laws.BytesString
import Derived.Laws.AppendOwnNone
import Derived.Lib.Overlaps
import Derived.Lib.AppendZerosOnto
import Derived.Laws.NewBlocks
import Derived.Laws.Externs
import Derived.Laws.IdiomCopy
import Derived.RangeFuncNested
import Derived.RangeFuncBound
import Derived.RangeFuncCalls
import Derived.RangeFuncLeaves
import Derived.Shelf.Abstract
import Derived.Shelf.RegionOpen
import Derived.OwnWalkIn
import Derived.TacticsInMore
import Derived.LoopNIn
import Derived.LoopIn
import Derived.Deep.CutRange
import Derived.Deep.OwnRows
import Derived.Lib.Walk
import Derived.Lib.SliceRun
import GoSem.Claim
import GoSem.ClaimJoined
import GoSem.ClaimMapViews
import Derived.JoinedTies
import Derived.KernelRfl
import Derived.Lib.LaidTab
import Derived.JoinedCond
import Derived.ShutString
import Derived.ChangeOld
import Derived.Below
import Derived.Carry
import Derived.ChangeSlices
import Derived.Deep.Slices
import Derived.Deep.DeepHandedRow
import Derived.RowKit
import Derived.ChangeShapes
import Derived.SizedLaws
import Derived.ChangeMaps5
import Derived.OrdersHeld
import Derived.Lib.AppendStr
import Derived.Lib.ConvBytes
import Derived.Deep.RegionHeld3
import Derived.Deep.MidRow
import Derived.Laws.BitsAllLaws
import Derived.Sort.Grow
import Derived.Shelf.SlSortCmp.WholeK
import Derived.Shelf.Lay
import Derived.Ground.SlsfProg
import Derived.Sort.LotA
import Derived.Sort.MapsRangeIn
import Derived.RangeFuncSeq
import Derived.RangeFuncKeeps
import Derived.Maps.AppendAt
import Derived.OwnWalk
import Derived.Test.YtpddokbjjhbfgaaGreatRows
import Derived.Test.YtpddokbjjhbfgaaGreatU17
import Derived.Test.YtpddokbjjhbfgaaGreatU20
namespace Go.Proofs.YtpddokbjjhbfgaaGreat.ds
open Go.ChangeShapes Go.WideShapes Go.ChangeAt Go.RowKit Go.Sort
set_option linter.unusedVariables false
set_option linter.unusedSimpArgs false

/-- Config.Right -/
def CR (c : Cf) : Bool := decide (c.n ≥ 1) && decide (c.n ≤ 8) && decide (c.p ≥ 1) && decide (c.p ≤ 5) && decide (c.p ≤ c.n) && decide (c.r ≥ 1) && decide (c.r ≤ 16) && decide (c.s ≥ 1) && decide (c.s ≤ 8) && decide (c.g ≥ 1) && decide (c.g ≤ 64) && decide (c.c ≥ 1) && decide (c.c ≤ 1048576) && decide (c.k ≥ 1) && decide (c.k ≤ 64) && decide (c.h ≥ 0) && decide (c.h ≤ 32) && decide (c.b ≥ 1) && decide (c.b ≤ 256)
set_option maxHeartbeats 16000000 in
set_option maxRecDepth 100000 in
theorem right30 (w : World) (c : Cf) : Calls Tryz.prog 30 #[.agg c.a] w fun r w' => r = .returned (.bool (CR c)) ∧ Apart [] w w' := by
  obtain ⟨C, HXC⟩ : ∃ X, Hid (X = w.heap.size) := ⟨_, rfl⟩
  obtain ⟨w1, hw1⟩ : ∃ V, V = w.alloc (.cells c.a 27) := ⟨_, rfl⟩
  have a1 : Apart [] w w1 := by rw [hw1]; exact (Apart.refl [] w).alloc _
  have hC1 : w1.heap[C]? = some (.cells c.a 27 (0, 0)) := by rw [hw1, HXC.out]; exact heap_alloc_new w _
  have HC1 := hid hC1
  have HA1 := hid a1
  clear a1 hC1
  unfold CR
  unfold Cf.a at hw1 HC1 ⊢
  by_cases t0 : c.n ≥ 1
  · rw [decide_eq_true t0]
    by_cases t1 : c.n ≤ 8
    · rw [decide_eq_true t1]
      by_cases t2 : c.p ≥ 1
      · rw [decide_eq_true t2]
        by_cases t3 : c.p ≤ 5
        · rw [decide_eq_true t3]
          by_cases t4 : c.p ≤ c.n
          · rw [decide_eq_true t4]
            by_cases t5 : c.r ≥ 1
            · rw [decide_eq_true t5]
              by_cases t6 : c.r ≤ 16
              · rw [decide_eq_true t6]
                by_cases t7 : c.s ≥ 1
                · rw [decide_eq_true t7]
                  by_cases t8 : c.s ≤ 8
                  · rw [decide_eq_true t8]
                    by_cases t9 : c.g ≥ 1
                    · rw [decide_eq_true t9]
                      by_cases t10 : c.g ≤ 64
                      · rw [decide_eq_true t10]
                        by_cases t11 : c.c ≥ 1
                        · rw [decide_eq_true t11]
                          by_cases t12 : c.c ≤ 1048576
                          · rw [decide_eq_true t12]
                            by_cases t13 : c.k ≥ 1
                            · rw [decide_eq_true t13]
                              by_cases t14 : c.k ≤ 64
                              · rw [decide_eq_true t14]
                                by_cases t15 : c.h ≥ 0
                                · rw [decide_eq_true t15]
                                  by_cases t16 : c.h ≤ 32
                                  · rw [decide_eq_true t16]
                                    by_cases t17 : c.b ≥ 1
                                    · rw [decide_eq_true t17]
                                      by_cases t18 : c.b ≤ 256
                                      · rw [decide_eq_true t18]
                                        go_enter Tryz.func30, Tryz.ntmps30
                                        go_upto_region 1 with fail
                                        rw [← hw1, ← HXC.out]
                                        clear hw1 HXC
                                        have g0 := crow HC1.out 0 (.int .i64 c.n) rfl
                                        have g1 := crow HC1.out 1 (.int .i64 c.p) rfl
                                        have g2 := crow HC1.out 2 (.int .i64 c.r) rfl
                                        have g3 := crow HC1.out 3 (.int .i64 c.s) rfl
                                        have g4 := crow HC1.out 4 (.int .i64 c.g) rfl
                                        have g5 := crow HC1.out 5 (.int .i64 c.c) rfl
                                        have g6 := crow HC1.out 6 (.int .i64 c.k) rfl
                                        have g7 := crow HC1.out 7 (.int .i64 c.h) rfl
                                        have g8 := crow HC1.out 8 (.int .i64 c.b) rfl
                                        go_wp2_with fail
                                        go_ret
                                        exact ⟨by simp, HA1.out⟩
                                      · rw [decide_eq_false t18]
                                        go_enter Tryz.func30, Tryz.ntmps30
                                        go_upto_region 1 with fail
                                        rw [← hw1, ← HXC.out]
                                        clear hw1 HXC
                                        have g0 := crow HC1.out 0 (.int .i64 c.n) rfl
                                        have g1 := crow HC1.out 1 (.int .i64 c.p) rfl
                                        have g2 := crow HC1.out 2 (.int .i64 c.r) rfl
                                        have g3 := crow HC1.out 3 (.int .i64 c.s) rfl
                                        have g4 := crow HC1.out 4 (.int .i64 c.g) rfl
                                        have g5 := crow HC1.out 5 (.int .i64 c.c) rfl
                                        have g6 := crow HC1.out 6 (.int .i64 c.k) rfl
                                        have g7 := crow HC1.out 7 (.int .i64 c.h) rfl
                                        have g8 := crow HC1.out 8 (.int .i64 c.b) rfl
                                        go_wp2_with fail
                                        go_ret
                                        exact ⟨by simp, HA1.out⟩
                                    · rw [decide_eq_false t17]
                                      go_enter Tryz.func30, Tryz.ntmps30
                                      go_upto_region 1 with fail
                                      rw [← hw1, ← HXC.out]
                                      clear hw1 HXC
                                      have g0 := crow HC1.out 0 (.int .i64 c.n) rfl
                                      have g1 := crow HC1.out 1 (.int .i64 c.p) rfl
                                      have g2 := crow HC1.out 2 (.int .i64 c.r) rfl
                                      have g3 := crow HC1.out 3 (.int .i64 c.s) rfl
                                      have g4 := crow HC1.out 4 (.int .i64 c.g) rfl
                                      have g5 := crow HC1.out 5 (.int .i64 c.c) rfl
                                      have g6 := crow HC1.out 6 (.int .i64 c.k) rfl
                                      have g7 := crow HC1.out 7 (.int .i64 c.h) rfl
                                      have g8 := crow HC1.out 8 (.int .i64 c.b) rfl
                                      go_wp2_with fail
                                      go_ret
                                      exact ⟨by simp, HA1.out⟩
                                  · rw [decide_eq_false t16]
                                    go_enter Tryz.func30, Tryz.ntmps30
                                    go_upto_region 1 with fail
                                    rw [← hw1, ← HXC.out]
                                    clear hw1 HXC
                                    have g0 := crow HC1.out 0 (.int .i64 c.n) rfl
                                    have g1 := crow HC1.out 1 (.int .i64 c.p) rfl
                                    have g2 := crow HC1.out 2 (.int .i64 c.r) rfl
                                    have g3 := crow HC1.out 3 (.int .i64 c.s) rfl
                                    have g4 := crow HC1.out 4 (.int .i64 c.g) rfl
                                    have g5 := crow HC1.out 5 (.int .i64 c.c) rfl
                                    have g6 := crow HC1.out 6 (.int .i64 c.k) rfl
                                    have g7 := crow HC1.out 7 (.int .i64 c.h) rfl
                                    have g8 := crow HC1.out 8 (.int .i64 c.b) rfl
                                    go_wp2_with fail
                                    go_ret
                                    exact ⟨by simp, HA1.out⟩
                                · rw [decide_eq_false t15]
                                  go_enter Tryz.func30, Tryz.ntmps30
                                  go_upto_region 1 with fail
                                  rw [← hw1, ← HXC.out]
                                  clear hw1 HXC
                                  have g0 := crow HC1.out 0 (.int .i64 c.n) rfl
                                  have g1 := crow HC1.out 1 (.int .i64 c.p) rfl
                                  have g2 := crow HC1.out 2 (.int .i64 c.r) rfl
                                  have g3 := crow HC1.out 3 (.int .i64 c.s) rfl
                                  have g4 := crow HC1.out 4 (.int .i64 c.g) rfl
                                  have g5 := crow HC1.out 5 (.int .i64 c.c) rfl
                                  have g6 := crow HC1.out 6 (.int .i64 c.k) rfl
                                  have g7 := crow HC1.out 7 (.int .i64 c.h) rfl
                                  have g8 := crow HC1.out 8 (.int .i64 c.b) rfl
                                  go_wp2_with fail
                                  go_ret
                                  exact ⟨by simp, HA1.out⟩
                              · rw [decide_eq_false t14]
                                go_enter Tryz.func30, Tryz.ntmps30
                                go_upto_region 1 with fail
                                rw [← hw1, ← HXC.out]
                                clear hw1 HXC
                                have g0 := crow HC1.out 0 (.int .i64 c.n) rfl
                                have g1 := crow HC1.out 1 (.int .i64 c.p) rfl
                                have g2 := crow HC1.out 2 (.int .i64 c.r) rfl
                                have g3 := crow HC1.out 3 (.int .i64 c.s) rfl
                                have g4 := crow HC1.out 4 (.int .i64 c.g) rfl
                                have g5 := crow HC1.out 5 (.int .i64 c.c) rfl
                                have g6 := crow HC1.out 6 (.int .i64 c.k) rfl
                                have g7 := crow HC1.out 7 (.int .i64 c.h) rfl
                                have g8 := crow HC1.out 8 (.int .i64 c.b) rfl
                                go_wp2_with fail
                                go_ret
                                exact ⟨by simp, HA1.out⟩
                            · rw [decide_eq_false t13]
                              go_enter Tryz.func30, Tryz.ntmps30
                              go_upto_region 1 with fail
                              rw [← hw1, ← HXC.out]
                              clear hw1 HXC
                              have g0 := crow HC1.out 0 (.int .i64 c.n) rfl
                              have g1 := crow HC1.out 1 (.int .i64 c.p) rfl
                              have g2 := crow HC1.out 2 (.int .i64 c.r) rfl
                              have g3 := crow HC1.out 3 (.int .i64 c.s) rfl
                              have g4 := crow HC1.out 4 (.int .i64 c.g) rfl
                              have g5 := crow HC1.out 5 (.int .i64 c.c) rfl
                              have g6 := crow HC1.out 6 (.int .i64 c.k) rfl
                              have g7 := crow HC1.out 7 (.int .i64 c.h) rfl
                              have g8 := crow HC1.out 8 (.int .i64 c.b) rfl
                              go_wp2_with fail
                              go_ret
                              exact ⟨by simp, HA1.out⟩
                          · rw [decide_eq_false t12]
                            go_enter Tryz.func30, Tryz.ntmps30
                            go_upto_region 1 with fail
                            rw [← hw1, ← HXC.out]
                            clear hw1 HXC
                            have g0 := crow HC1.out 0 (.int .i64 c.n) rfl
                            have g1 := crow HC1.out 1 (.int .i64 c.p) rfl
                            have g2 := crow HC1.out 2 (.int .i64 c.r) rfl
                            have g3 := crow HC1.out 3 (.int .i64 c.s) rfl
                            have g4 := crow HC1.out 4 (.int .i64 c.g) rfl
                            have g5 := crow HC1.out 5 (.int .i64 c.c) rfl
                            have g6 := crow HC1.out 6 (.int .i64 c.k) rfl
                            have g7 := crow HC1.out 7 (.int .i64 c.h) rfl
                            have g8 := crow HC1.out 8 (.int .i64 c.b) rfl
                            go_wp2_with fail
                            go_ret
                            exact ⟨by simp, HA1.out⟩
                        · rw [decide_eq_false t11]
                          go_enter Tryz.func30, Tryz.ntmps30
                          go_upto_region 1 with fail
                          rw [← hw1, ← HXC.out]
                          clear hw1 HXC
                          have g0 := crow HC1.out 0 (.int .i64 c.n) rfl
                          have g1 := crow HC1.out 1 (.int .i64 c.p) rfl
                          have g2 := crow HC1.out 2 (.int .i64 c.r) rfl
                          have g3 := crow HC1.out 3 (.int .i64 c.s) rfl
                          have g4 := crow HC1.out 4 (.int .i64 c.g) rfl
                          have g5 := crow HC1.out 5 (.int .i64 c.c) rfl
                          have g6 := crow HC1.out 6 (.int .i64 c.k) rfl
                          have g7 := crow HC1.out 7 (.int .i64 c.h) rfl
                          have g8 := crow HC1.out 8 (.int .i64 c.b) rfl
                          go_wp2_with fail
                          go_ret
                          exact ⟨by simp, HA1.out⟩
                      · rw [decide_eq_false t10]
                        go_enter Tryz.func30, Tryz.ntmps30
                        go_upto_region 1 with fail
                        rw [← hw1, ← HXC.out]
                        clear hw1 HXC
                        have g0 := crow HC1.out 0 (.int .i64 c.n) rfl
                        have g1 := crow HC1.out 1 (.int .i64 c.p) rfl
                        have g2 := crow HC1.out 2 (.int .i64 c.r) rfl
                        have g3 := crow HC1.out 3 (.int .i64 c.s) rfl
                        have g4 := crow HC1.out 4 (.int .i64 c.g) rfl
                        have g5 := crow HC1.out 5 (.int .i64 c.c) rfl
                        have g6 := crow HC1.out 6 (.int .i64 c.k) rfl
                        have g7 := crow HC1.out 7 (.int .i64 c.h) rfl
                        have g8 := crow HC1.out 8 (.int .i64 c.b) rfl
                        go_wp2_with fail
                        go_ret
                        exact ⟨by simp, HA1.out⟩
                    · rw [decide_eq_false t9]
                      go_enter Tryz.func30, Tryz.ntmps30
                      go_upto_region 1 with fail
                      rw [← hw1, ← HXC.out]
                      clear hw1 HXC
                      have g0 := crow HC1.out 0 (.int .i64 c.n) rfl
                      have g1 := crow HC1.out 1 (.int .i64 c.p) rfl
                      have g2 := crow HC1.out 2 (.int .i64 c.r) rfl
                      have g3 := crow HC1.out 3 (.int .i64 c.s) rfl
                      have g4 := crow HC1.out 4 (.int .i64 c.g) rfl
                      have g5 := crow HC1.out 5 (.int .i64 c.c) rfl
                      have g6 := crow HC1.out 6 (.int .i64 c.k) rfl
                      have g7 := crow HC1.out 7 (.int .i64 c.h) rfl
                      have g8 := crow HC1.out 8 (.int .i64 c.b) rfl
                      go_wp2_with fail
                      go_ret
                      exact ⟨by simp, HA1.out⟩
                  · rw [decide_eq_false t8]
                    go_enter Tryz.func30, Tryz.ntmps30
                    go_upto_region 1 with fail
                    rw [← hw1, ← HXC.out]
                    clear hw1 HXC
                    have g0 := crow HC1.out 0 (.int .i64 c.n) rfl
                    have g1 := crow HC1.out 1 (.int .i64 c.p) rfl
                    have g2 := crow HC1.out 2 (.int .i64 c.r) rfl
                    have g3 := crow HC1.out 3 (.int .i64 c.s) rfl
                    have g4 := crow HC1.out 4 (.int .i64 c.g) rfl
                    have g5 := crow HC1.out 5 (.int .i64 c.c) rfl
                    have g6 := crow HC1.out 6 (.int .i64 c.k) rfl
                    have g7 := crow HC1.out 7 (.int .i64 c.h) rfl
                    have g8 := crow HC1.out 8 (.int .i64 c.b) rfl
                    go_wp2_with fail
                    go_ret
                    exact ⟨by simp, HA1.out⟩
                · rw [decide_eq_false t7]
                  go_enter Tryz.func30, Tryz.ntmps30
                  go_upto_region 1 with fail
                  rw [← hw1, ← HXC.out]
                  clear hw1 HXC
                  have g0 := crow HC1.out 0 (.int .i64 c.n) rfl
                  have g1 := crow HC1.out 1 (.int .i64 c.p) rfl
                  have g2 := crow HC1.out 2 (.int .i64 c.r) rfl
                  have g3 := crow HC1.out 3 (.int .i64 c.s) rfl
                  have g4 := crow HC1.out 4 (.int .i64 c.g) rfl
                  have g5 := crow HC1.out 5 (.int .i64 c.c) rfl
                  have g6 := crow HC1.out 6 (.int .i64 c.k) rfl
                  have g7 := crow HC1.out 7 (.int .i64 c.h) rfl
                  have g8 := crow HC1.out 8 (.int .i64 c.b) rfl
                  go_wp2_with fail
                  go_ret
                  exact ⟨by simp, HA1.out⟩
              · rw [decide_eq_false t6]
                go_enter Tryz.func30, Tryz.ntmps30
                go_upto_region 1 with fail
                rw [← hw1, ← HXC.out]
                clear hw1 HXC
                have g0 := crow HC1.out 0 (.int .i64 c.n) rfl
                have g1 := crow HC1.out 1 (.int .i64 c.p) rfl
                have g2 := crow HC1.out 2 (.int .i64 c.r) rfl
                have g3 := crow HC1.out 3 (.int .i64 c.s) rfl
                have g4 := crow HC1.out 4 (.int .i64 c.g) rfl
                have g5 := crow HC1.out 5 (.int .i64 c.c) rfl
                have g6 := crow HC1.out 6 (.int .i64 c.k) rfl
                have g7 := crow HC1.out 7 (.int .i64 c.h) rfl
                have g8 := crow HC1.out 8 (.int .i64 c.b) rfl
                go_wp2_with fail
                go_ret
                exact ⟨by simp, HA1.out⟩
            · rw [decide_eq_false t5]
              go_enter Tryz.func30, Tryz.ntmps30
              go_upto_region 1 with fail
              rw [← hw1, ← HXC.out]
              clear hw1 HXC
              have g0 := crow HC1.out 0 (.int .i64 c.n) rfl
              have g1 := crow HC1.out 1 (.int .i64 c.p) rfl
              have g2 := crow HC1.out 2 (.int .i64 c.r) rfl
              have g3 := crow HC1.out 3 (.int .i64 c.s) rfl
              have g4 := crow HC1.out 4 (.int .i64 c.g) rfl
              have g5 := crow HC1.out 5 (.int .i64 c.c) rfl
              have g6 := crow HC1.out 6 (.int .i64 c.k) rfl
              have g7 := crow HC1.out 7 (.int .i64 c.h) rfl
              have g8 := crow HC1.out 8 (.int .i64 c.b) rfl
              go_wp2_with fail
              go_ret
              exact ⟨by simp, HA1.out⟩
          · rw [decide_eq_false t4]
            go_enter Tryz.func30, Tryz.ntmps30
            go_upto_region 1 with fail
            rw [← hw1, ← HXC.out]
            clear hw1 HXC
            have g0 := crow HC1.out 0 (.int .i64 c.n) rfl
            have g1 := crow HC1.out 1 (.int .i64 c.p) rfl
            have g2 := crow HC1.out 2 (.int .i64 c.r) rfl
            have g3 := crow HC1.out 3 (.int .i64 c.s) rfl
            have g4 := crow HC1.out 4 (.int .i64 c.g) rfl
            have g5 := crow HC1.out 5 (.int .i64 c.c) rfl
            have g6 := crow HC1.out 6 (.int .i64 c.k) rfl
            have g7 := crow HC1.out 7 (.int .i64 c.h) rfl
            have g8 := crow HC1.out 8 (.int .i64 c.b) rfl
            go_wp2_with fail
            go_ret
            exact ⟨by simp, HA1.out⟩
        · rw [decide_eq_false t3]
          go_enter Tryz.func30, Tryz.ntmps30
          go_upto_region 1 with fail
          rw [← hw1, ← HXC.out]
          clear hw1 HXC
          have g0 := crow HC1.out 0 (.int .i64 c.n) rfl
          have g1 := crow HC1.out 1 (.int .i64 c.p) rfl
          have g2 := crow HC1.out 2 (.int .i64 c.r) rfl
          have g3 := crow HC1.out 3 (.int .i64 c.s) rfl
          have g4 := crow HC1.out 4 (.int .i64 c.g) rfl
          have g5 := crow HC1.out 5 (.int .i64 c.c) rfl
          have g6 := crow HC1.out 6 (.int .i64 c.k) rfl
          have g7 := crow HC1.out 7 (.int .i64 c.h) rfl
          have g8 := crow HC1.out 8 (.int .i64 c.b) rfl
          go_wp2_with fail
          go_ret
          exact ⟨by simp, HA1.out⟩
      · rw [decide_eq_false t2]
        go_enter Tryz.func30, Tryz.ntmps30
        go_upto_region 1 with fail
        rw [← hw1, ← HXC.out]
        clear hw1 HXC
        have g0 := crow HC1.out 0 (.int .i64 c.n) rfl
        have g1 := crow HC1.out 1 (.int .i64 c.p) rfl
        have g2 := crow HC1.out 2 (.int .i64 c.r) rfl
        have g3 := crow HC1.out 3 (.int .i64 c.s) rfl
        have g4 := crow HC1.out 4 (.int .i64 c.g) rfl
        have g5 := crow HC1.out 5 (.int .i64 c.c) rfl
        have g6 := crow HC1.out 6 (.int .i64 c.k) rfl
        have g7 := crow HC1.out 7 (.int .i64 c.h) rfl
        have g8 := crow HC1.out 8 (.int .i64 c.b) rfl
        go_wp2_with fail
        go_ret
        exact ⟨by simp, HA1.out⟩
    · rw [decide_eq_false t1]
      go_enter Tryz.func30, Tryz.ntmps30
      go_upto_region 1 with fail
      rw [← hw1, ← HXC.out]
      clear hw1 HXC
      have g0 := crow HC1.out 0 (.int .i64 c.n) rfl
      have g1 := crow HC1.out 1 (.int .i64 c.p) rfl
      have g2 := crow HC1.out 2 (.int .i64 c.r) rfl
      have g3 := crow HC1.out 3 (.int .i64 c.s) rfl
      have g4 := crow HC1.out 4 (.int .i64 c.g) rfl
      have g5 := crow HC1.out 5 (.int .i64 c.c) rfl
      have g6 := crow HC1.out 6 (.int .i64 c.k) rfl
      have g7 := crow HC1.out 7 (.int .i64 c.h) rfl
      have g8 := crow HC1.out 8 (.int .i64 c.b) rfl
      go_wp2_with fail
      go_ret
      exact ⟨by simp, HA1.out⟩
  · rw [decide_eq_false t0]
    go_enter Tryz.func30, Tryz.ntmps30
    go_upto_region 1 with fail
    rw [← hw1, ← HXC.out]
    clear hw1 HXC
    have g0 := crow HC1.out 0 (.int .i64 c.n) rfl
    have g1 := crow HC1.out 1 (.int .i64 c.p) rfl
    have g2 := crow HC1.out 2 (.int .i64 c.r) rfl
    have g3 := crow HC1.out 3 (.int .i64 c.s) rfl
    have g4 := crow HC1.out 4 (.int .i64 c.g) rfl
    have g5 := crow HC1.out 5 (.int .i64 c.c) rfl
    have g6 := crow HC1.out 6 (.int .i64 c.k) rfl
    have g7 := crow HC1.out 7 (.int .i64 c.h) rfl
    have g8 := crow HC1.out 8 (.int .i64 c.b) rfl
    go_wp2_with fail
    go_ret
    exact ⟨by simp, HA1.out⟩
end Go.Proofs.YtpddokbjjhbfgaaGreat.ds
namespace Go.Proofs.YtpddokbjjhbfgaaGreat.ds
open Go.ChangeShapes Go.WideShapes Go.ChangeAt Go.RowKit Go.Sort
set_option linter.unusedVariables false
set_option linter.unusedSimpArgs false
def k1 : ByteArray := { data := #[107] }
theorem cfg_nat {c : Cf} (h : CR c = true) : ∃ nn rr pp : Nat, c.n = nn ∧ c.r = rr ∧ c.p = pp ∧ 1 ≤ nn ∧ nn ≤ 8 ∧ 1 ≤ rr ∧ rr ≤ 16 ∧ 1 ≤ pp ∧ pp ≤ nn := by
  unfold CR at h
  simp only [Bool.and_eq_true, decide_eq_true_eq] at h
  exact ⟨c.n.toNat, c.r.toNat, c.p.toNat, by omega, by omega, by omega, by omega, by omega, by omega, by omega, by omega, by omega⟩
end Go.Proofs.YtpddokbjjhbfgaaGreat.ds
namespace Go.Proofs.YtpddokbjjhbfgaaGreat.ds
open Go.ChangeShapes Go.WideShapes Go.ChangeAt Go.RowKit Go.Sort
set_option linter.unusedVariables false
set_option linter.unusedSimpArgs false
set_option maxHeartbeats 4000000 in
set_option maxRecDepth 100000 in
/-- New of a wrong config -/
theorem new_arg (w : World) (c : Cf) (hc : CR c = false) (j : Int) : Calls Tryz.prog 11 #[.agg c.a, .int .i64 j] w fun r w' => r = .returned (.tuple #[.pointer none, .int .i64 1]) ∧ Apart [] w w' := by
  obtain ⟨C, HXC⟩ : ∃ X, Hid (X = w.heap.size) := ⟨_, hid rfl⟩
  obtain ⟨w1, hw1⟩ : ∃ V, V = w.alloc (.cells c.a 27) := ⟨_, rfl⟩
  have a1 : Apart [] w w1 := by rw [hw1]; exact (Apart.refl [] w).alloc _
  have hC1 : w1.heap[C]? = some (.cells c.a 27 (0, 0)) := by rw [hw1, HXC.out]; exact heap_alloc_new w _
  have HC1 := hid hC1
  have HA1 := hid a1
  have HRT := hid (right30 w1 c)
  rw [hc] at HRT
  clear a1 hC1 hc
  unfold Cf.a at hw1 HC1 HRT ⊢
  go_enter Tryz.func11, Tryz.ntmps11
  go_upto_region 1 with fail
  rw [← hw1, ← HXC.out]
  clear hw1 HXC
  have g0 := crow HC1.out 0 (.int .i64 c.n) rfl
  have g1 := crow HC1.out 1 (.int .i64 c.p) rfl
  have g2 := crow HC1.out 2 (.int .i64 c.r) rfl
  have g3 := crow HC1.out 3 (.int .i64 c.s) rfl
  have g4 := crow HC1.out 4 (.int .i64 c.g) rfl
  have g5 := crow HC1.out 5 (.int .i64 c.c) rfl
  have g6 := crow HC1.out 6 (.int .i64 c.k) rfl
  have g7 := crow HC1.out 7 (.int .i64 c.h) rfl
  have g8 := crow HC1.out 8 (.int .i64 c.b) rfl
  go_wp2_with fail
  refine HRT.out.mono ?_
  rintro _ w2 ⟨rfl, a2⟩
  have HA2 := hid (HA1.out.trans a2)
  clear a2 g0 g1 g2 g3 g4 g5 g6 g7 g8 HRT HC1 HA1
  try dsimp only
  go_wp2_with fail
  go_ret2
  exact ⟨rfl, HA2.out⟩
set_option maxHeartbeats 4000000 in
set_option maxRecDepth 100000 in
theorem rnew_arg (w : World) (c : Cf) (hc : CR c = false) (j : Int) : Calls Tryz.prog 26 #[.agg c.a, .int .i64 j] w fun r w' => r = .returned (.tuple #[.pointer none, .int .i64 1]) ∧ Apart [] w w' := by
  obtain ⟨C, HXC⟩ : ∃ X, Hid (X = w.heap.size) := ⟨_, hid rfl⟩
  obtain ⟨w1, hw1⟩ : ∃ V, V = w.alloc (.cells c.a 27) := ⟨_, rfl⟩
  have a1 : Apart [] w w1 := by rw [hw1]; exact (Apart.refl [] w).alloc _
  have hC1 : w1.heap[C]? = some (.cells c.a 27 (0, 0)) := by rw [hw1, HXC.out]; exact heap_alloc_new w _
  have HC1 := hid hC1
  have HA1 := hid a1
  have HRT := hid (right30 w1 c)
  rw [hc] at HRT
  clear a1 hC1 hc
  unfold Cf.a at hw1 HC1 HRT ⊢
  go_enter Tryz.func26, Tryz.ntmps26
  go_upto_region 1 with fail
  rw [← hw1, ← HXC.out]
  clear hw1 HXC
  have g0 := crow HC1.out 0 (.int .i64 c.n) rfl
  have g1 := crow HC1.out 1 (.int .i64 c.p) rfl
  have g2 := crow HC1.out 2 (.int .i64 c.r) rfl
  have g3 := crow HC1.out 3 (.int .i64 c.s) rfl
  have g4 := crow HC1.out 4 (.int .i64 c.g) rfl
  have g5 := crow HC1.out 5 (.int .i64 c.c) rfl
  have g6 := crow HC1.out 6 (.int .i64 c.k) rfl
  have g7 := crow HC1.out 7 (.int .i64 c.h) rfl
  have g8 := crow HC1.out 8 (.int .i64 c.b) rfl
  go_wp2_with fail
  refine HRT.out.mono ?_
  rintro _ w2 ⟨rfl, a2⟩
  have HA2 := hid (HA1.out.trans a2)
  clear a2 g0 g1 g2 g3 g4 g5 g6 g7 g8 HRT HC1 HA1
  try dsimp only
  go_wp2_with fail
  go_ret2
  exact ⟨rfl, HA2.out⟩
set_option maxHeartbeats 4000000 in
set_option maxRecDepth 100000 in
/-- New of a first node that is none -/
theorem new_node (w : World) (c : Cf) (hc : CR c = true) (j : Int) (hj : j < 0 ∨ j ≥ c.n) : Calls Tryz.prog 11 #[.agg c.a, .int .i64 j] w fun r w' => r = .returned (.tuple #[.pointer none, .int .i64 4]) ∧ Apart [] w w' := by
  obtain ⟨C, HXC⟩ : ∃ X, Hid (X = w.heap.size) := ⟨_, hid rfl⟩
  obtain ⟨w1, hw1⟩ : ∃ V, V = w.alloc (.cells c.a 27) := ⟨_, rfl⟩
  have a1 : Apart [] w w1 := by rw [hw1]; exact (Apart.refl [] w).alloc _
  have hC1 : w1.heap[C]? = some (.cells c.a 27 (0, 0)) := by rw [hw1, HXC.out]; exact heap_alloc_new w _
  have HC1 := hid hC1
  have HA1 := hid a1
  have HRT := hid (right30 w1 c)
  rw [hc] at HRT
  have HJ := hid hj
  clear a1 hC1 hc hj
  unfold Cf.a at hw1 HC1 HRT ⊢
  go_enter Tryz.func11, Tryz.ntmps11
  go_upto_region 1 with fail
  rw [← hw1, ← HXC.out]
  clear hw1 HXC
  have g0 := crow HC1.out 0 (.int .i64 c.n) rfl
  have g1 := crow HC1.out 1 (.int .i64 c.p) rfl
  have g2 := crow HC1.out 2 (.int .i64 c.r) rfl
  have g3 := crow HC1.out 3 (.int .i64 c.s) rfl
  have g4 := crow HC1.out 4 (.int .i64 c.g) rfl
  have g5 := crow HC1.out 5 (.int .i64 c.c) rfl
  have g6 := crow HC1.out 6 (.int .i64 c.k) rfl
  have g7 := crow HC1.out 7 (.int .i64 c.h) rfl
  have g8 := crow HC1.out 8 (.int .i64 c.b) rfl
  go_wp2_with fail
  refine HRT.out.mono ?_
  rintro _ w2 ⟨rfl, a2⟩
  have HC2 := hid (keep0 a2 HC1.out)
  have HA2 := hid (HA1.out.trans a2)
  clear a2 g0 g1 g2 g3 g4 g5 g6 g7 g8 HRT HC1 HA1
  have g0 := crow HC2.out 0 (.int .i64 c.n) rfl
  try dsimp only
  by_cases h0 : j < 0
  · go_wp2_with fail
    go_ret2
    exact ⟨rfl, HA2.out⟩
  · have h1 : j ≥ c.n := by rcases HJ.out with h | h <;> omega
    go_wp2_with fail
    go_ret2
    exact ⟨rfl, HA2.out⟩
set_option maxHeartbeats 4000000 in
set_option maxRecDepth 100000 in
theorem rnew_node (w : World) (c : Cf) (hc : CR c = true) (j : Int) (hj : j < 0 ∨ j ≥ c.n) : Calls Tryz.prog 26 #[.agg c.a, .int .i64 j] w fun r w' => r = .returned (.tuple #[.pointer none, .int .i64 4]) ∧ Apart [] w w' := by
  obtain ⟨C, HXC⟩ : ∃ X, Hid (X = w.heap.size) := ⟨_, hid rfl⟩
  obtain ⟨w1, hw1⟩ : ∃ V, V = w.alloc (.cells c.a 27) := ⟨_, rfl⟩
  have a1 : Apart [] w w1 := by rw [hw1]; exact (Apart.refl [] w).alloc _
  have hC1 : w1.heap[C]? = some (.cells c.a 27 (0, 0)) := by rw [hw1, HXC.out]; exact heap_alloc_new w _
  have HC1 := hid hC1
  have HA1 := hid a1
  have HRT := hid (right30 w1 c)
  rw [hc] at HRT
  have HJ := hid hj
  clear a1 hC1 hc hj
  unfold Cf.a at hw1 HC1 HRT ⊢
  go_enter Tryz.func26, Tryz.ntmps26
  go_upto_region 1 with fail
  rw [← hw1, ← HXC.out]
  clear hw1 HXC
  have g0 := crow HC1.out 0 (.int .i64 c.n) rfl
  have g1 := crow HC1.out 1 (.int .i64 c.p) rfl
  have g2 := crow HC1.out 2 (.int .i64 c.r) rfl
  have g3 := crow HC1.out 3 (.int .i64 c.s) rfl
  have g4 := crow HC1.out 4 (.int .i64 c.g) rfl
  have g5 := crow HC1.out 5 (.int .i64 c.c) rfl
  have g6 := crow HC1.out 6 (.int .i64 c.k) rfl
  have g7 := crow HC1.out 7 (.int .i64 c.h) rfl
  have g8 := crow HC1.out 8 (.int .i64 c.b) rfl
  go_wp2_with fail
  refine HRT.out.mono ?_
  rintro _ w2 ⟨rfl, a2⟩
  have HC2 := hid (keep0 a2 HC1.out)
  have HA2 := hid (HA1.out.trans a2)
  clear a2 g0 g1 g2 g3 g4 g5 g6 g7 g8 HRT HC1 HA1
  have g0 := crow HC2.out 0 (.int .i64 c.n) rfl
  try dsimp only
  by_cases h0 : j < 0
  · go_wp2_with fail
    go_ret2
    exact ⟨rfl, HA2.out⟩
  · have h1 : j ≥ c.n := by rcases HJ.out with h | h <;> omega
    go_wp2_with fail
    go_ret2
    exact ⟨rfl, HA2.out⟩
end Go.Proofs.YtpddokbjjhbfgaaGreat.ds
namespace Go.Proofs.YtpddokbjjhbfgaaGreat.ds
open Go.ChangeShapes Go.WideShapes Go.ChangeAt Go.RowKit Go.Deep Go.Sort
set_option linter.unusedVariables false
set_option linter.unusedSimpArgs false
set_option maxRecDepth 100000
theorem laidOut : laidOutB Tryz.prog = true := by kernel_rfl
theorem Apart.below {X : List Nat} {w w' : World} (h : Apart X w w') {B : Nat} (hB : B ≤ w.heap.size) (hx : ∀ x ∈ X, B ≤ x) : Below B w w' :=
  ⟨h.os, h.tape, h.output, h.size, fun k hk => h.block k (by omega) (fun m => by have := hx k m; omega)⟩
theorem c3 : Tryz.prog.cellsOf 3 = 1 := by kernel_rfl
theorem c23 : Tryz.prog.cellsOf 23 = 5 := by kernel_rfl
theorem in64_wf {z : Int} (h : (Lit.int .i64 z).wf = true) : In64 z := by
  simp [Lit.wf, IntKind.bits, IntKind.signed, IntKind.min, IntKind.max] at h
  unfold In64
  omega
theorem open_start {H : Type} {enc : TypeId × Value → H} {W : World} {fuel : Nat} {cs : Array Value} {x : DataW H × List MemPlace} (hsz : cs.size = 5) (h : DataW.trod enc Tryz.prog W 0 (fun _ => true) true fuel 23 cs.toList = some x) :
    ∃ s0 s1 s2 s3 s4 : Int, cs = #[.int .i64 s0, .int .i64 s1, .int .i64 s2, .int .i64 s3, .int .i64 s4] ∧ In64 s0 ∧ In64 s1 ∧ In64 s2 ∧ In64 s3 ∧ In64 s4 := by
  obtain ⟨l⟩ := cs
  simp only [List.size_toArray] at hsz
  match l, hsz with
  | [a0, a1, a2, a3, a4], _ =>
    simp only at h
    obtain ⟨xs, k, hk, hxy, _, hxl, hf⟩ := DataW.trod_struct Tryz.underlying23 h
    match xs, hxl with
    | [y0, y1, y2, y3, y4], _ =>
      have g0 := hf 0 _ rfl
      have g1 := hf 1 _ rfl
      have g2 := hf 2 _ rfl
      have g3 := hf 3 _ rfl
      have g4 := hf 4 _ rfl
      simp [c3] at g0 g1 g2 g3 g4
      obtain ⟨k0, q0, _, f0⟩ := DataW.trod_int Tryz.underlying3 g0
      obtain ⟨k1, q1, _, f1⟩ := DataW.trod_int Tryz.underlying3 g1
      obtain ⟨k2, q2, _, f2⟩ := DataW.trod_int Tryz.underlying3 g2
      obtain ⟨k3, q3, _, f3⟩ := DataW.trod_int Tryz.underlying3 g3
      obtain ⟨k4, q4, _, f4⟩ := DataW.trod_int Tryz.underlying3 g4
      simp only [List.cons.injEq, and_true] at q0 q1 q2 q3 q4
      subst q0 q1 q2 q3 q4
      exact ⟨k0, k1, k2, k3, k4, rfl, in64_wf f0, in64_wf f1, in64_wf f2, in64_wf f3, in64_wf f4⟩
theorem open_il {H : Type} {enc : TypeId × Value → H} {W : World} {fuel : Nat} {v : Value} {x : DataW H × List MemPlace} (h : DataW.trod enc Tryz.prog W 0 (fun _ => true) true fuel 54 [v] = some x) :
    ∃ (p : Option Addr) (n cap : Nat) (fs : List Int), v = .slice p n cap ∧ Ird W p n fs ∧ n ≤ 9223372036854775807 := by
  rcases open_ints Tryz.underlying54 Tryz.underlying3 c3 h with ⟨hcs, _⟩ | ⟨a, l, c, zs, hcs, _, hl, hm, hz, hx, hcell, hwz⟩
  · simp at hcs
    exact ⟨none, 0, 0, [], hcs, ⟨rfl, fun h => by omega⟩, by omega⟩
  · simp at hcs
    simp only [if_true] at hz
    refine ⟨some a, l, c, zs.take l, hcs, ⟨by simp; omega, fun h0 => ?_⟩, by unfold maxLen at hm; omega⟩
    obtain ⟨g, o, spot⟩ := a
    have hc := hcell 0 (by omega)
    have hspot : spot = none := by simpa [Addr.add] using World.cell?_spot hc
    subst hspot
    refine ⟨g, o, rfl, ?_, fun j hj => ?_⟩
    · rw [Addr.add_lit] at hc
      exact block_lt_of_cell hc
    · rw [List.length_take] at hj
      have hc2 := hcell j (by omega)
      rw [Addr.add_lit] at hc2
      rw [hc2, List.getElem_take, List.getD_eq_getElem?_getD, List.getElem?_eq_getElem (by omega)]
      rfl
end Go.Proofs.YtpddokbjjhbfgaaGreat.ds
