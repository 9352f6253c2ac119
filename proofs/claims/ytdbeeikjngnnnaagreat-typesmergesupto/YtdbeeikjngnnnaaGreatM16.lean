import Derived.Test.YtdbeeikjngnnnaaGreatChecked
import Derived.WalkKit
import Derived.ProofKit
import Derived.OpenShut
import Derived.Deep.QuietTactic
import Derived.BigQuiet
import Derived.BigRegion
import Derived.Laws.CopyOwn
import Derived.Laws.IdiomCopy
import Derived.WalkSmall
import Derived.Laws.ResultCell
import Derived.Laws.AppendOwnNone
import Derived.Deep.RegionHeld
import Derived.Deep.DeepAppendRoom
import Derived.Great.BuildSlice
import Derived.Deep.CutBlock
import Derived.Deep.RegionLaw
import Derived.ArgAppend
import Derived.Laws.Strings
import Derived.Laws.StructEq
import Derived.Below
import Derived.Deep.MidRow
import Derived.Great.Ranges
import Derived.Deep.RegionHeld3
import Derived.Laws.NewBlocks
import Derived.OrdersHeld
import Derived.Stop.BytesEq
import Derived.Laws.BytesString
import Derived.Lib.ConvBytes
import Derived.Laws.BitsAllLaws
import Derived.WalkLawsBesides
import Derived.Lib.Bytealg
import Derived.Laws.Externs
import Derived.Lib.SliceRun
import Derived.Lib.AppendZerosOnto
import Derived.Lib.AppendStr
import Derived.Lib.SlBytesConst
import Derived.Sort.Walk0
import Derived.Laws.Cover1
import Derived.Lib.Strings
import Derived.Lib.MinMaxS
import GoSem.Claim
import GoSem.ClaimJoined
import GoSem.ClaimMapViews
import Derived.JoinedTies
import Derived.KernelRfl
import Derived.JoinedCond
import Derived.ShutString
import Derived.ChangeOld
import Derived.Carry
import Derived.ChangeSlices
import Derived.Deep.Slices
import Derived.Deep.DeepHandedRow
import Derived.RowKit
import Derived.ChangeShapes
import Derived.SizedLaws
import Derived.ChangeMaps5
import Derived.Sort.WalkA
import Derived.Test.YtdbeeikjngnnnaaGreatRows
import Derived.Test.YtdbeeikjngnnnaaGreatM11
namespace Go.Proofs.YtdbeeikjngnnnaaGreat.ty
open Go.ChangeShapes Go.WideShapes Go.ChangeAt Go.RowKit
set_option linter.unusedVariables false
set_option linter.unusedSimpArgs false
set_option maxRecDepth 100000 in
theorem nanI (w : World) (a : Int) : Calls Tryz.prog 73 #[.int .i64 a] w fun r w' => r = .returned (.bool false) ∧ w' = w := by
  go_enter Tryz.func73, Tryz.ntmps73
  go_wp2_with fail
  go_ret
  exact ⟨by first | rfl | simp, rfl⟩
set_option maxRecDepth 100000 in
theorem nanS (w : World) (a : ByteArray) : Calls Tryz.prog 74 #[.string a] w fun r w' => r = .returned (.bool false) ∧ w' = w := by
  go_enter Tryz.func74, Tryz.ntmps74
  go_wp2_with fail
  go_ret
  exact ⟨by first | rfl | simp, rfl⟩
def cmI (a b : Int) : Int := if a < b then -1 else if a > b then 1 else 0
set_option maxRecDepth 100000 in
theorem cmpI (w : World) (a b : Int) : Calls Tryz.prog 70 #[.int .i64 a, .int .i64 b] w fun r w' => r = .returned (.int .i64 (cmI a b)) ∧ w' = w := by
  have HN := hid nanI
  by_cases h1 : a < b
  · have e : cmI a b = -1 := by simp [cmI, h1]
    rw [e]
    go_enter Tryz.func70, Tryz.ntmps70
    go_wp2_with (go_at_call 73; refine (HN.out _ _).mono ?_; rintro _ _ ⟨rfl, rfl⟩)
    go_ret
    exact ⟨rfl, rfl⟩
  · by_cases h2 : a > b
    · have e : cmI a b = 1 := by simp [cmI, h1, h2]
      rw [e]
      go_enter Tryz.func70, Tryz.ntmps70
      go_wp2_with (go_at_call 73; refine (HN.out _ _).mono ?_; rintro _ _ ⟨rfl, rfl⟩)
      go_ret
      exact ⟨rfl, rfl⟩
    · have e : cmI a b = 0 := by simp [cmI, h1]; omega
      rw [e]
      go_enter Tryz.func70, Tryz.ntmps70
      go_wp2_with (go_at_call 73; refine (HN.out _ _).mono ?_; rintro _ _ ⟨rfl, rfl⟩)
      go_ret
      exact ⟨rfl, rfl⟩
def cmS (a b : ByteArray) : Int := if Op.bytesLess a.toList b.toList then -1 else if a.toList == b.toList then 0 else 1
set_option maxRecDepth 100000 in
theorem cmpS (w : World) (a b : ByteArray) : Calls Tryz.prog 71 #[.string a, .string b] w fun r w' => r = .returned (.int .i64 (cmS a b)) ∧ w' = w := by
  have HN := hid nanS
  cases h1 : Op.bytesLess a.toList b.toList
  · cases h2 : (a.toList == b.toList)
    · have e : cmS a b = 1 := by simp only [cmS, h1, h2]; rfl
      rw [e]
      go_enter Tryz.func71, Tryz.ntmps71
      go_wp2_with (go_at_call 74; refine (HN.out _ _).mono ?_; rintro _ _ ⟨rfl, rfl⟩)
      go_ret
      exact ⟨rfl, rfl⟩
    · have e : cmS a b = 0 := by simp only [cmS, h1, h2]; rfl
      rw [e]
      go_enter Tryz.func71, Tryz.ntmps71
      go_wp2_with (go_at_call 74; refine (HN.out _ _).mono ?_; rintro _ _ ⟨rfl, rfl⟩)
      go_ret
      exact ⟨rfl, rfl⟩
  · have e : cmS a b = -1 := by simp only [cmS, h1]; rfl
    rw [e]
    go_enter Tryz.func71, Tryz.ntmps71
    go_wp2_with (go_at_call 74; refine (HN.out _ _).mono ?_; rintro _ _ ⟨rfl, rfl⟩)
    go_ret
    exact ⟨rfl, rfl⟩
/-- the first that is not 0 -/
def orL : List Int → Int
  | [] => 0
  | x :: r => if x ≠ 0 then x else orL r
theorem orL_drop {xs : List Int} {i : Nat} (hi : i < xs.length) : orL (xs.drop i) = if xs.getD i 0 ≠ 0 then xs.getD i 0 else orL (xs.drop (i + 1)) := by
  rw [List.drop_eq_getElem_cons hi, orL]
  simp [hi]
set_option maxRecDepth 100000 in
theorem or_ok {w : World} {P o n c : Nat} {xs : List Int} (hl : xs.length = n) (hn : n ≤ 1000) (hr : ∀ j u, (rv xs)[j]? = some u → w.cell? ⟨P, o + j, none⟩ = some u) : Calls Tryz.prog 69 #[.slice (some ⟨P, o, none⟩) n c] w fun r w' => r = .returned (.int .i64 (orL xs)) ∧ w' = w := by
  have HR := hid hr
  have Hl := hid hl
  clear hr hl
  obtain ⟨rr, Hrr⟩ : ∃ z : Int, Hid (z = orL xs) := ⟨_, hid rfl⟩
  rw [← Hrr.out]
  go_enter Tryz.func69, Tryz.ntmps69
  go_wp2_with fail
  go_loopw [8] (fun v wt => ∃ i : Nat, v = .int .i64 (i : Nat) ∧ i ≤ n ∧ wt = w ∧ Hid (rr = orL (xs.drop i))) (fun v _ => n - (intOf v).toNat)
  case atStart => exact ⟨0, rfl, Nat.zero_le _, rfl, Hrr⟩
  case round =>
    obtain ⟨i, rfl, hi, rfl, HI⟩ := hrel
    by_cases hlt : i < n
    · have hlti : ((i : Nat) : Int) < ((n : Nat) : Int) := by omega
      have z := HR.out i _ (rv_at xs i (by rw [Hl.out]; exact hlt))
      have hd := orL_drop (xs := xs) (i := i) (by rw [Hl.out]; exact hlt)
      obtain ⟨x, Hx⟩ : ∃ z : Int, Hid (z = xs.getD i 0) := ⟨_, hid rfl⟩
      rw [← Hx.out] at z hd
      have HD := hid hd
      clear hd
      by_cases he : x = 0
      · subst he
        have HI2 : Hid (rr = orL (xs.drop (i + 1))) := by unfold Hid; rw [HI.out, HD.out]; simp
        go_wp2_with fail
        go_roundw
        case rel => exact ⟨i + 1, by go_num, by omega, by first | rfl | trivial, HI2⟩
        case measure => simp [intOf]; omega
      · have hb : (x != 0) = true := by simp [he]
        have HI2 : Hid (rr = x) := by unfold Hid; rw [HI.out, HD.out, if_pos he]
        clear he
        go_wp2_with fail
        go_ret
        exact ⟨by first | rfl | (rw [HI2.out]; rfl), rfl⟩
    · have hlti : ¬ ((i : Nat) : Int) < ((n : Nat) : Int) := by omega
      have HI2 : Hid (rr = 0) := by unfold Hid; rw [HI.out, List.drop_eq_nil_of_le (by rw [Hl.out]; omega)]; rfl
      go_wp2_with fail
      go_ret
      exact ⟨by first | rfl | (rw [HI2.out]; rfl), rfl⟩
end Go.Proofs.YtdbeeikjngnnnaaGreat.ty
namespace Go.Proofs.YtdbeeikjngnnnaaGreat.ty
open Go.ChangeShapes Go.WideShapes Go.ChangeAt Go.RowKit
set_option linter.unusedVariables false
set_option linter.unusedSimpArgs false
theorem rv_row3 {W : World} {P : Nat} {x y z : Int} (h : W.heap[P]? = some (.cells #[.int .i64 x, .int .i64 y, .int .i64 z] 3 (0, 0))) : ∀ j u, (rv [x, y, z])[j]? = some u → W.cell? ⟨P, 0 + j, none⟩ = some u := by
  intro j u hj
  rw [Nat.zero_add, cell_of_row _ _ _ _ _ _ h]
  simpa [rv] using hj
/-- is the second register the later one? -/
def later (s a : Int) (t : ByteArray) (s2 a2 : Int) (t2 : ByteArray) : Prop := orL [cmI s s2, cmI a a2, cmS t t2] < 0
set_option maxRecDepth 100000 in
theorem gmerged_ok {w : World} {s a s2 a2 : Int} {t t2 : ByteArray} : Calls Tryz.prog 56 #[.agg (ty.rg s a t), .agg (ty.rg s2 a2 t2)] w fun r w' => (later s a t s2 a2 t2 → r = .returned (.agg (ty.rg s2 a2 t2))) ∧ (¬ later s a t s2 a2 t2 → r = .returned (.agg (ty.rg s a t))) ∧ Apart [] w w' := by
  unfold ty.rg
  have HA := hid (Apart.refl [] w)
  go_enter Tryz.func56, Tryz.ntmps56
  go_upto_region 1 with fail
  obtain ⟨X, HXX⟩ : ∃ X, Hid (X = w.heap.size) := ⟨_, rfl⟩
  obtain ⟨w1, hw1⟩ : ∃ W, W = w.alloc (.cells #[.int .i64 s, .int .i64 a, .string t] 108) := ⟨_, rfl⟩
  have HSw1 : Hid (Apart [] w w1) := by unfold Hid; rw [hw1]; exact (Apart.refl [] w).alloc _
  have HBX : Hid (w1.heap[X]? = some (.cells #[.int .i64 s, .int .i64 a, .string t] 108 (0, 0))) := by unfold Hid; rw [HXX.out, hw1]; exact heap_alloc_new w _
  have HLX : Hid (w.heap.size ≤ X) := by unfold Hid; rw [HXX.out]; exact HA.out.size
  replace HA := hid (HA.out.trans HSw1.out)
  obtain ⟨Y, HXY⟩ : ∃ X, Hid (X = w1.heap.size) := ⟨_, rfl⟩
  obtain ⟨w2, hw2⟩ : ∃ W, W = w1.alloc (.cells #[.int .i64 s2, .int .i64 a2, .string t2] 108) := ⟨_, rfl⟩
  have HSw2 : Hid (Apart [] w1 w2) := by unfold Hid; rw [hw2]; exact (Apart.refl [] w1).alloc _
  have HBY : Hid (w2.heap[Y]? = some (.cells #[.int .i64 s2, .int .i64 a2, .string t2] 108 (0, 0))) := by unfold Hid; rw [HXY.out, hw2]; exact heap_alloc_new w1 _
  have HNY_X : Hid (Y ≠ X) := by unfold Hid; have := lt_of_heap HBX.out; rw [HXY.out]; omega
  have HLY : Hid (w.heap.size ≤ Y) := by unfold Hid; rw [HXY.out]; exact HA.out.size
  replace HA := hid (HA.out.trans HSw2.out)
  replace HBX := hid (keep0 HSw2.out HBX.out)
  have heY : X + 1 = Y := by rw [HXY.out, hw1, HXX.out]; exact (Array.size_push _).symm
  obtain ⟨Z, HXZ⟩ : ∃ X, Hid (X = w2.heap.size) := ⟨_, rfl⟩
  obtain ⟨w3, hw3⟩ : ∃ W, W = w2.alloc (.cells #[.int .i64 0, .int .i64 0, .string ⟨#[]⟩] 108) := ⟨_, rfl⟩
  have HSw3 : Hid (Apart [] w2 w3) := by unfold Hid; rw [hw3]; exact (Apart.refl [] w2).alloc _
  have HBZ : Hid (w3.heap[Z]? = some (.cells #[.int .i64 0, .int .i64 0, .string ⟨#[]⟩] 108 (0, 0))) := by unfold Hid; rw [HXZ.out, hw3]; exact heap_alloc_new w2 _
  have HNZ_X : Hid (Z ≠ X) := by unfold Hid; have := lt_of_heap HBX.out; rw [HXZ.out]; omega
  have HNZ_Y : Hid (Z ≠ Y) := by unfold Hid; have := lt_of_heap HBY.out; rw [HXZ.out]; omega
  have HLZ : Hid (w.heap.size ≤ Z) := by unfold Hid; rw [HXZ.out]; exact HA.out.size
  replace HA := hid (HA.out.trans HSw3.out)
  replace HBX := hid (keep0 HSw3.out HBX.out)
  replace HBY := hid (keep0 HSw3.out HBY.out)
  have heZ : Y + 1 = Z := by rw [HXZ.out, hw2, HXY.out]; exact (Array.size_push _).symm
  rw [← hw1, ← HXX.out, ← hw2, heY, ← hw3, heZ]
  clear hw1 HXX hw2 HXY heY hw3 HXZ heZ
  have hAd : Apart [] w3 w3.drew := (Apart.refl [] w3).drew
  refine wp_region_held_drew (S := fun W => Apart [] w3 W) (by kernel_rfl) hAd (fun hHeld => ?_)
  generalize w3.drew = wd at *
  clear hAd
  refine tk 0 5 (.pointer (some ⟨X, 0, none⟩)) rfl ?_ ?_
  · intro W hSW; go_simp
  simp only [Act.put, List.setIfInBounds_toArray, List.set_cons_zero, List.set_cons_succ]
  refine tk 1 6 (.int .i64 s) rfl ?_ ?_
  · intro W hSW; have z : W.cell? ⟨X, 0, none⟩ = some (.int .i64 s) := (cell_of_row _ _ _ _ _ _ (keep0 hSW HBX.out)).trans rfl; go_simp
  simp only [Act.put, List.setIfInBounds_toArray, List.set_cons_zero, List.set_cons_succ]
  refine tk 2 7 (.pointer (some ⟨Y, 0, none⟩)) rfl ?_ ?_
  · intro W hSW; go_simp
  simp only [Act.put, List.setIfInBounds_toArray, List.set_cons_zero, List.set_cons_succ]
  refine tk 3 8 (.int .i64 s2) rfl ?_ ?_
  · intro W hSW; have z : W.cell? ⟨Y, 0, none⟩ = some (.int .i64 s2) := (cell_of_row _ _ _ _ _ _ (keep0 hSW HBY.out)).trans rfl; go_simp
  simp only [Act.put, List.setIfInBounds_toArray, List.set_cons_zero, List.set_cons_succ]
  refine tk 5 10 (.pointer (some ⟨X, 1, none⟩)) rfl ?_ ?_
  · intro W hSW; go_simp
  simp only [Act.put, List.setIfInBounds_toArray, List.set_cons_zero, List.set_cons_succ]
  refine tk 6 11 (.int .i64 a) rfl ?_ ?_
  · intro W hSW; have z : W.cell? ⟨X, 1, none⟩ = some (.int .i64 a) := (cell_of_row _ _ _ _ _ _ (keep0 hSW HBX.out)).trans rfl; go_simp
  simp only [Act.put, List.setIfInBounds_toArray, List.set_cons_zero, List.set_cons_succ]
  refine tk 7 12 (.pointer (some ⟨Y, 1, none⟩)) rfl ?_ ?_
  · intro W hSW; go_simp
  simp only [Act.put, List.setIfInBounds_toArray, List.set_cons_zero, List.set_cons_succ]
  refine tk 8 13 (.int .i64 a2) rfl ?_ ?_
  · intro W hSW; have z : W.cell? ⟨Y, 1, none⟩ = some (.int .i64 a2) := (cell_of_row _ _ _ _ _ _ (keep0 hSW HBY.out)).trans rfl; go_simp
  simp only [Act.put, List.setIfInBounds_toArray, List.set_cons_zero, List.set_cons_succ]
  refine tk 10 15 (.pointer (some ⟨X, 2, none⟩)) rfl ?_ ?_
  · intro W hSW; go_simp
  simp only [Act.put, List.setIfInBounds_toArray, List.set_cons_zero, List.set_cons_succ]
  refine tk 11 16 (.string t) rfl ?_ ?_
  · intro W hSW; have z : W.cell? ⟨X, 2, none⟩ = some (.string t) := (cell_of_row _ _ _ _ _ _ (keep0 hSW HBX.out)).trans rfl; go_simp
  simp only [Act.put, List.setIfInBounds_toArray, List.set_cons_zero, List.set_cons_succ]
  refine tk 12 17 (.pointer (some ⟨Y, 2, none⟩)) rfl ?_ ?_
  · intro W hSW; go_simp
  simp only [Act.put, List.setIfInBounds_toArray, List.set_cons_zero, List.set_cons_succ]
  refine tk 13 18 (.string t2) rfl ?_ ?_
  · intro W hSW; have z : W.cell? ⟨Y, 2, none⟩ = some (.string t2) := (cell_of_row _ _ _ _ _ _ (keep0 hSW HBY.out)).trans rfl; go_simp
  simp only [Act.put, List.setIfInBounds_toArray, List.set_cons_zero, List.set_cons_succ]
  refine wpAnyH_ready (rs := [4]) (by kernel_rfl) (by simp) ?_
  refine AllReadyH.cons rfl (fun KK hKK => ?_) AllReadyH.nil
  go_simp
  refine (cmpI _ s s2).mono ?_
  rintro _ wa ⟨rfl, rfl⟩
  try dsimp only
  refine hKK.out _ _ hHeld (fun hHeld => ?_)
  clear hKK KK
  try simp only [Act.put, List.setIfInBounds_toArray, List.set_cons_zero, List.set_cons_succ]
  refine wpAnyH_ready (rs := [9]) (by kernel_rfl) (by simp) ?_
  refine AllReadyH.cons rfl (fun KK hKK => ?_) AllReadyH.nil
  go_simp
  refine (cmpI _ a a2).mono ?_
  rintro _ wb ⟨rfl, rfl⟩
  try dsimp only
  refine hKK.out _ _ hHeld (fun hHeld => ?_)
  clear hKK KK
  try simp only [Act.put, List.setIfInBounds_toArray, List.set_cons_zero, List.set_cons_succ]
  refine wpAnyH_ready (rs := [14]) (by kernel_rfl) (by simp) ?_
  refine AllReadyH.cons rfl (fun KK hKK => ?_) AllReadyH.nil
  go_simp
  refine (cmpS _ t t2).mono ?_
  rintro _ wc ⟨rfl, rfl⟩
  try dsimp only
  refine hKK.out _ _ hHeld (fun hHeld => ?_)
  clear hKK KK
  try simp only [Act.put, List.setIfInBounds_toArray, List.set_cons_zero, List.set_cons_succ]
  refine wpAnyH_ready (rs := [15]) (by kernel_rfl) (by simp) ?_
  refine AllReadyH.cons rfl (fun KK hKK => ?_) AllReadyH.nil
  go_simp
  obtain ⟨K, HK⟩ : ∃ K, K = wc.heap.size := ⟨_, rfl⟩
  obtain ⟨wk, hwk⟩ : ∃ W, W = wc.alloc (.cells #[.int .i64 (cmI s s2), .int .i64 (cmI a a2), .int .i64 (cmS t t2)] 3) := ⟨_, rfl⟩
  have HBK : Hid (wk.heap[K]? = some (.cells #[.int .i64 (cmI s s2), .int .i64 (cmI a a2), .int .i64 (cmS t t2)] 3 (0, 0))) := by unfold Hid; rw [hwk, HK]; exact heap_alloc_new wc _
  have hHk : Apart [] w3 wk := by rw [hwk]; exact hHeld.alloc _
  rw [← hwk, ← HK]
  clear hwk HK
  refine hKK.out _ _ hHk (fun hHeld => ?_)
  clear hKK KK
  try simp only [Act.put, List.setIfInBounds_toArray, List.set_cons_zero, List.set_cons_succ]
  refine wpAnyH_ready (rs := [16]) (by kernel_rfl) (by simp) ?_
  refine AllReadyH.cons rfl (fun KK hKK => ?_) AllReadyH.nil
  go_simp
  refine (or_ok (n := 3) rfl (by omega) (rv_row3 HBK.out)).mono ?_
  rintro _ wm ⟨rfl, rfl⟩
  try dsimp only
  refine hKK.out _ _ hHeld (fun hHeld => ?_)
  clear hKK KK
  try simp only [Act.put, List.setIfInBounds_toArray, List.set_cons_zero, List.set_cons_succ]
  obtain ⟨v, Hv⟩ : ∃ v : Int, Hid (v = orL [cmI s s2, cmI a a2, cmS t t2]) := ⟨_, hid rfl⟩
  simp only [← Hv.out]
  refine tk 17 22 (.bool (decide (v < 0))) rfl ?_ ?_
  · intro W hSW; go_simp
  simp only [Act.put, List.setIfInBounds_toArray, List.set_cons_zero, List.set_cons_succ]
  refine wpAnyH_done (by kernel_rfl) ?_ _
  have HBX5 := hid (keep0 hHeld HBX.out)
  have HBY5 := hid (keep0 hHeld HBY.out)
  have HBZ5 := hid (keep0 hHeld HBZ.out)
  have HA5 := hid (HA.out.trans hHeld)
  clear hHeld HBK HBX HBY HBZ
  by_cases hv : v < 0
  · have hv2 : later s a t s2 a2 t2 := by unfold later; rw [← Hv.out]; exact hv
    have HV := hid hv2
    clear hv2
    go_wp2_with (first
      | refine wpList_load_row rfl 108 _ rfl Y rfl 108 _ (0, 0) _ HBY5.out Tryz.underlying108 rfl (by rw [size95]; rfl) ?_
      | refine wpList_store_row rfl 108 _ _ rfl Z #[.int .i64 s2, .int .i64 a2, .string t2] rfl rfl 108 _ HBZ5.out (by rw [size95]; rfl) rfl (by simp [Value.oneCell']) ?_)
    refine bodyPost_ret (results_cell_row rfl _ _ Z 108 #[.int .i64 s2, .int .i64 a2, .string t2] _ _ rfl (setRow_heap _ _ _ _ _ _ HBZ5.out) Tryz.underlying108 rfl (by rw [size95]; rfl)) rfl ?_
    exact ⟨fun _ => rfl, fun h => absurd HV.out h, HA5.out.trans' (apart_setRow _ Z _) (by intro y hy; simp at hy; rw [hy]; exact .inr HLZ.out)⟩
  
  · have hv2 : ¬ later s a t s2 a2 t2 := by unfold later; rw [← Hv.out]; exact hv
    have HV := hid hv2
    clear hv2
    go_wp2_with (first
      | refine wpList_load_row rfl 108 _ rfl X rfl 108 _ (0, 0) _ HBX5.out Tryz.underlying108 rfl (by rw [size95]; rfl) ?_
      | refine wpList_store_row rfl 108 _ _ rfl Z #[.int .i64 s, .int .i64 a, .string t] rfl rfl 108 _ HBZ5.out (by rw [size95]; rfl) rfl (by simp [Value.oneCell']) ?_)
    refine bodyPost_ret (results_cell_row rfl _ _ Z 108 #[.int .i64 s, .int .i64 a, .string t] _ _ rfl (setRow_heap _ _ _ _ _ _ HBZ5.out) Tryz.underlying108 rfl (by rw [size95]; rfl)) rfl ?_
    exact ⟨fun h => absurd h HV.out, fun _ => rfl, HA5.out.trans' (apart_setRow _ Z _) (by intro y hy; simp at hy; rw [hy]; exact .inr HLZ.out)⟩

end Go.Proofs.YtdbeeikjngnnnaaGreat.ty
