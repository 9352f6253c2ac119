import Derived.Test.YtdbeeikjngnnnaaGreatChecked
import Derived.WalkKit
import Derived.ProofKit
import Derived.OpenShut
import Derived.Deep.QuietTactic
import Derived.BigQuiet
import Derived.BigRegion
import Derived.Laws.CopyOwn
import Derived.Laws.IdiomCopy
import Derived.WalkSmall
import Derived.Laws.ResultCell
import Derived.Laws.AppendOwnNone
import Derived.Deep.RegionHeld
import Derived.Deep.DeepAppendRoom
import Derived.Great.BuildSlice
import Derived.Deep.CutBlock
import Derived.Deep.RegionLaw
import Derived.ArgAppend
import Derived.Laws.Strings
import Derived.Laws.StructEq
import Derived.Below
import Derived.Deep.MidRow
import Derived.Great.Ranges
import Derived.Deep.RegionHeld3
import Derived.Laws.NewBlocks
import Derived.OrdersHeld
import Derived.Stop.BytesEq
import Derived.Laws.BytesString
import Derived.Lib.ConvBytes
import Derived.Laws.BitsAllLaws
import Derived.WalkLawsBesides
import Derived.Lib.Bytealg
import Derived.Laws.Externs
import Derived.Lib.SliceRun
import Derived.Lib.AppendZerosOnto
import Derived.Lib.AppendStr
import Derived.Lib.SlBytesConst
import Derived.Sort.Walk0
import Derived.Laws.Cover1
import Derived.Lib.Strings
import Derived.Lib.MinMaxS
import GoSem.Claim
import GoSem.ClaimJoined
import GoSem.ClaimMapViews
import Derived.JoinedTies
import Derived.KernelRfl
import Derived.JoinedCond
import Derived.ShutString
import Derived.ChangeOld
import Derived.Carry
import Derived.ChangeSlices
import Derived.Deep.Slices
import Derived.Deep.DeepHandedRow
import Derived.RowKit
import Derived.ChangeShapes
import Derived.SizedLaws
import Derived.ChangeMaps5
import Derived.Sort.WalkA
import Derived.Test.YtdbeeikjngnnnaaGreatRows
import Derived.Test.YtdbeeikjngnnnaaGreatD7
namespace Go.Proofs.YtdbeeikjngnnnaaGreat.ty
open Go.ChangeShapes Go.WideShapes Go.ChangeAt Go.RowKit
set_option linter.unusedVariables false
set_option linter.unusedSimpArgs false
set_option maxRecDepth 100000 in
theorem cright_ok {w : World} (cs : Array Value) : Calls Tryz.prog 104 #[.agg cs] w fun r w' => r = .returned (.bool true) ∧ Apart [] w w' := by
  go_enter Tryz.func104, Tryz.ntmps104
  go_wp2_with fail
  go_ret
  exact ⟨rfl, (Apart.refl _ _).alloc _⟩
set_option maxRecDepth 100000 in
theorem within_ok {w : World} {c d : List Int} (hc : c.length = 8) (hd : d.length = 8) : Calls Tryz.prog 100 #[.agg (rv c).toArray, .agg (rv d).toArray] w fun r w' => r = .returned (.bool (gr c d == d)) ∧ Apart [] w w' := by
  have Hc := hid hc
  have Hd := hid hd
  have hr := fun wx => run_eql_row wx (gr_len hc hd) hd
  have hg := fun wx x y => gd_row wx .eql x y (rv (gr c d)).toArray (rv d).toArray
  clear hc hd
  obtain ⟨g, Hg⟩ : ∃ g, Hid (g = gr c d) := ⟨_, hid rfl⟩
  rw [← Hg.out] at hr hg ⊢
  have HC := hid (fun wx => greater_ok (w := wx) (a := c) (b := d) Hc.out Hd.out)
  rw [← Hg.out] at HC
  go_enter Tryz.func100, Tryz.ntmps100
  go_upto_region 1 with fail
  obtain ⟨X, HXX⟩ : ∃ X, Hid (X = w.heap.size) := ⟨_, rfl⟩
  obtain ⟨w1, hw1⟩ : ∃ W, W = w.alloc (.cells (rv c).toArray 99) := ⟨_, rfl⟩
  obtain ⟨Y, HXY⟩ : ∃ X, Hid (X = w1.heap.size) := ⟨_, rfl⟩
  obtain ⟨w2, hw2⟩ : ∃ W, W = w1.alloc (.cells (rv d).toArray 99) := ⟨_, rfl⟩
  have HS1 : Hid (Apart [] w w1) := by unfold Hid; rw [hw1]; exact (Apart.refl [] w).alloc _
  have HS2 : Hid (Apart [] w1 w2) := by unfold Hid; rw [hw2]; exact (Apart.refl [] w1).alloc _
  have HBX : Hid (w2.heap[X]? = some (.cells (rv c).toArray 99 (0, 0))) := by unfold Hid; refine keep0 HS2.out ?_; rw [HXX.out, hw1]; exact heap_alloc_new w _
  have HBY : Hid (w2.heap[Y]? = some (.cells (rv d).toArray 99 (0, 0))) := by unfold Hid; rw [HXY.out, hw2]; exact heap_alloc_new w1 _
  have heY : X + 1 = Y := by rw [HXY.out, hw1, HXX.out]; exact (Array.size_push _).symm
  rw [← hw1, ← HXX.out, heY, ← hw2]
  clear hw1 hw2 HXX HXY heY
  have hAd : Apart [] w2 w2.drew := (Apart.refl [] w2).drew
  refine wp_region_held_drew (S := fun W => Apart [] w2 W) (by kernel_rfl) hAd (fun hHeld => ?_)
  generalize w2.drew = wd at *
  clear hAd
  refine tk 0 5 (.agg (rv c).toArray) rfl ?_ ?_
  · intro W hSW; exact ex_load _ rfl X 0 _ rfl (rgR (keep0 hSW HBX.out)) (by rw [rv_len, Hc.out])
  simp only [Act.put, List.setIfInBounds_toArray, List.set_cons_zero, List.set_cons_succ]
  refine tk 1 6 (.agg (rv d).toArray) rfl ?_ ?_
  · intro W hSW; exact ex_load _ rfl Y 0 _ rfl (rgR (keep0 hSW HBY.out)) (by rw [rv_len, Hd.out])
  simp only [Act.put, List.setIfInBounds_toArray, List.set_cons_zero, List.set_cons_succ]
  refine tk 3 8 (.agg (rv d).toArray) rfl ?_ ?_
  · intro W hSW; exact ex_load _ rfl Y 0 _ rfl (rgR (keep0 hSW HBY.out)) (by rw [rv_len, Hd.out])
  simp only [Act.put, List.setIfInBounds_toArray, List.set_cons_zero, List.set_cons_succ]
  refine wpAnyH_ready (rs := [2]) (by kernel_rfl) (by simp) ?_
  refine AllReadyH.cons rfl (fun KK hKK => ?_) AllReadyH.nil
  go_simp
  refine (HC.out _).mono ?_
  rintro _ w3 ⟨rfl, a3⟩
  have hHx := hHeld.trans a3
  try dsimp only
  refine hKK.out _ _ hHx (fun hHeld => ?_)
  clear hKK KK
  try simp only [Act.put, List.setIfInBounds_toArray, List.set_cons_zero, List.set_cons_succ]
  refine tk 4 9 (.bool (g == d)) rfl ?_ ?_
  · intro W hSW; go_simp
  simp only [Act.put, List.setIfInBounds_toArray, List.set_cons_zero, List.set_cons_succ]
  refine tk 5 4 (.bool (g == d)) rfl ?_ ?_
  · intro W hSW; go_simp
  simp only [Act.put, List.setIfInBounds_toArray, List.set_cons_zero, List.set_cons_succ]
  refine wpAnyH_done (by kernel_rfl) ?_ _
  have HA := hid ((HS1.out.trans HS2.out).trans hHeld)
  clear hHeld
  go_wp2_with fail
  go_ret
  exact ⟨rfl, HA.out⟩
set_option maxRecDepth 100000 in
theorem fright_ok {w : World} {c g : List Int} (hc : c.length = 8) (hg : g.length = 8) : Calls Tryz.prog 131 #[.agg (rv (c ++ g)).toArray] w fun r w' => r = .returned (.bool (gr g c == c)) ∧ Apart [] w w' := by
  have Hc := hid hc
  have Hg := hid hg
  have HC := hid (fun wx => within_ok (w := wx) hg hc)
  clear hc hg
  go_enter Tryz.func131, Tryz.ntmps131
  go_upto_region 1 with fail
  obtain ⟨X, HXX⟩ : ∃ X, Hid (X = w.heap.size) := ⟨_, rfl⟩
  obtain ⟨w1, hw1⟩ : ∃ W, W = w.alloc (.cells (rv (c ++ g)).toArray 106) := ⟨_, rfl⟩
  have HS1 : Hid (Apart [] w w1) := by unfold Hid; rw [hw1]; exact (Apart.refl [] w).alloc _
  have HBX : Hid (w1.heap[X]? = some (.cells (rv (c ++ g)).toArray 106 (0, 0))) := by unfold Hid; rw [HXX.out, hw1]; exact heap_alloc_new w _
  rw [← hw1, ← HXX.out]
  clear hw1 HXX
  go_wp2_with (first
    | refine wpL_val rfl (.agg (rv g).toArray) (ex_load _ rfl X 8 _ rfl (rg8 Hc.out HBX.out) (by rw [rv_len, Hg.out])) ?_
    | refine wpL_val rfl (.agg (rv c).toArray) (ex_load _ rfl X 0 _ rfl (rg0 HBX.out) (by rw [rv_len, Hc.out])) ?_
    | (go_at_call 100; refine (HC.out _).mono ?_; rintro _ w2 ⟨rfl, a2⟩; have HA2 := hid a2; clear a2))
  go_ret
  exact ⟨rfl, HS1.out.trans HA2.out⟩
/-- is it a register that there may be? -/
def rtR (s a : Int) (x : ByteArray) : Bool := isA a && (decide (0 < s) || (decide (s = 0) && decide (a = 0) && decide (x.toList = [])))
set_option maxRecDepth 100000 in
theorem gright_ok {w : World} {s a : Int} {x : ByteArray} : Calls Tryz.prog 135 #[.agg (ty.rg s a x)] w fun r w' => r = .returned (.bool (rtR s a x)) ∧ Apart [] w w' := by
  have HC := hid (fun wx => isActor_ok wx a)
  unfold ty.rg
  go_enter Tryz.func135, Tryz.ntmps135
  go_upto_region 1 with fail
  obtain ⟨X, HXX⟩ : ∃ X, Hid (X = w.heap.size) := ⟨_, rfl⟩
  obtain ⟨w1, hw1⟩ : ∃ W, W = w.alloc (.cells #[.int .i64 s, .int .i64 a, .string x] 108) := ⟨_, rfl⟩
  have HS1 : Hid (Apart [] w w1) := by unfold Hid; rw [hw1]; exact (Apart.refl [] w).alloc _
  have HBX : Hid (w1.heap[X]? = some (.cells #[.int .i64 s, .int .i64 a, .string x] 108 (0, 0))) := by unfold Hid; rw [HXX.out, hw1]; exact heap_alloc_new w _
  rw [← hw1, ← HXX.out]
  clear hw1 HXX
  have z0 : w1.cell? ⟨X, 0, none⟩ = some (.int .i64 s) := by rw [cell_of_row _ _ _ _ _ _ HBX.out]; rfl
  have z1 : w1.cell? ⟨X, 1, none⟩ = some (.int .i64 a) := by rw [cell_of_row _ _ _ _ _ _ HBX.out]; rfl
  have z2 : w1.cell? ⟨X, 2, none⟩ = some (.string x) := by rw [cell_of_row _ _ _ _ _ _ HBX.out]; rfl
  cases ha : isA a
  · rw [ha] at HC
    go_wp2_with (go_at_call 106; refine (HC.out _).mono ?_; rintro _ _ ⟨rfl, rfl⟩)
    go_ret
    exact ⟨by simp [rtR, ha], HS1.out⟩
  · rw [ha] at HC
    have e : rtR s a x = (decide (0 < s) || (decide (s = 0) && decide (a = 0) && decide (x.toList = []))) := by simp [rtR, ha]
    have He := hid e
    clear e
    by_cases hs : s > 0
    · go_wp2_with (go_at_call 106; refine (HC.out _).mono ?_; rintro _ _ ⟨rfl, rfl⟩)
      go_ret
      exact ⟨by rw [He.out]; simp [hs], HS1.out⟩
    · go_wp2_with (go_at_call 106; refine (HC.out _).mono ?_; rintro _ _ ⟨rfl, rfl⟩)
      all_goals
        (go_ret
         refine ⟨?_, HS1.out⟩
         rw [He.out]
         first | (simp [*]; done) | trace_state)
end Go.Proofs.YtdbeeikjngnnnaaGreat.ty
