import Derived.Test.YtdbeeikjngnnnaaGreatChecked
import Derived.WalkKit
import Derived.ProofKit
import Derived.OpenShut
import Derived.Deep.QuietTactic
import Derived.BigQuiet
import Derived.BigRegion
import Derived.Laws.CopyOwn
import Derived.Laws.IdiomCopy
import Derived.WalkSmall
import Derived.Laws.ResultCell
import Derived.Laws.AppendOwnNone
import Derived.Deep.RegionHeld
import Derived.Deep.DeepAppendRoom
import Derived.Great.BuildSlice
import Derived.Deep.CutBlock
import Derived.Deep.RegionLaw
import Derived.ArgAppend
import Derived.Laws.Strings
import Derived.Laws.StructEq
import Derived.Below
import Derived.Deep.MidRow
import Derived.Great.Ranges
import Derived.Deep.RegionHeld3
import Derived.Laws.NewBlocks
import Derived.OrdersHeld
import Derived.Stop.BytesEq
import Derived.Laws.BytesString
import Derived.Lib.ConvBytes
import Derived.Laws.BitsAllLaws
import Derived.WalkLawsBesides
import Derived.Lib.Bytealg
import Derived.Laws.Externs
import Derived.Lib.SliceRun
import Derived.Lib.AppendZerosOnto
import Derived.Lib.AppendStr
import Derived.Lib.SlBytesConst
import Derived.Sort.Walk0
import Derived.Laws.Cover1
import Derived.Lib.Strings
import Derived.Lib.MinMaxS
import GoSem.Claim
import GoSem.ClaimJoined
import GoSem.ClaimMapViews
import Derived.JoinedTies
import Derived.KernelRfl
import Derived.JoinedCond
import Derived.ShutString
import Derived.ChangeOld
import Derived.Carry
import Derived.ChangeSlices
import Derived.Deep.Slices
import Derived.Deep.DeepHandedRow
import Derived.RowKit
import Derived.ChangeShapes
import Derived.SizedLaws
import Derived.ChangeMaps5
import Derived.Sort.WalkA
import Derived.Test.YtdbeeikjngnnnaaGreatRows
import Derived.Test.YtdbeeikjngnnnaaGreatM2
namespace Go.Proofs.YtdbeeikjngnnnaaGreat.ty
open Go.ChangeShapes Go.WideShapes Go.ChangeAt Go.RowKit
set_option linter.unusedVariables false
set_option linter.unusedSimpArgs false
set_option maxRecDepth 100000 in
theorem Merge_ok {w : World} {V O : Nat} {T T' : TypeId} {x y : Value} {P : Array Value → World → Prop} (hV : Bd w V (.iface T x)) (hO : Bd w O (.iface T' y)) (hc : ∀ wx, Apart [] w wx → Calls Tryz.prog 42 #[.iface T x, .iface T' y] wx fun r w' => ∃ es, r = .returned (.tuple #[.iface T (.agg es), .int .i64 0]) ∧ Apart [] wx w' ∧ P es w') : Calls Tryz.prog 21 #[.pointer (some ⟨V, 0, none⟩), .pointer (some ⟨O, 0, none⟩)] w fun r w' => r = .returned (.int .i64 0) ∧ ∃ es w2, Bd w' V (.iface T (.agg es)) ∧ Apart [] w w2 ∧ Apart [V] w2 w' ∧ P es w2 := by
  have HV := hid hV
  have HO := hid hO
  have HC := hid hc
  clear hV hO hc
  go_enter Tryz.func21, Tryz.ntmps21
  go_upto_region 3 with fail
  have hAd : Apart [V] w w.drew := (Apart.refl [V] w).drew
  have HA : Hid (Apart [] w w.drew) := (Apart.refl [] w).drew
  refine wp_region_held_drew (S := fun W => Apart [V] w W) (by kernel_rfl) hAd (fun hHeld => ?_)
  generalize w.drew = wd at *
  clear hAd
  refine tk 0 7 (.pointer (some ⟨V, 0, none⟩)) rfl ?_ ?_
  · intro W hSW; go_simp
  simp only [Act.put, List.setIfInBounds_toArray, List.set_cons_zero, List.set_cons_succ]
  refine tk 1 8 (.pointer (some ⟨V, 0, none⟩)) rfl ?_ ?_
  · intro W hSW; go_simp
  simp only [Act.put, List.setIfInBounds_toArray, List.set_cons_zero, List.set_cons_succ]
  refine tk 2 9 (.pointer (some ⟨V, 0, none⟩)) rfl ?_ ?_
  · intro W hSW; go_simp
  simp only [Act.put, List.setIfInBounds_toArray, List.set_cons_zero, List.set_cons_succ]
  refine tk 3 10 (.pointer (some ⟨V, 0, none⟩)) rfl ?_ ?_
  · intro W hSW; go_simp
  simp only [Act.put, List.setIfInBounds_toArray, List.set_cons_zero, List.set_cons_succ]
  refine tk 5 12 (.pointer (some ⟨O, 0, none⟩)) rfl ?_ ?_
  · intro W hSW; go_simp
  simp only [Act.put, List.setIfInBounds_toArray, List.set_cons_zero, List.set_cons_succ]
  refine tk 6 13 (.pointer (some ⟨O, 0, none⟩)) rfl ?_ ?_
  · intro W hSW; go_simp
  simp only [Act.put, List.setIfInBounds_toArray, List.set_cons_zero, List.set_cons_succ]
  refine tk 7 14 (.pointer (some ⟨O, 0, none⟩)) rfl ?_ ?_
  · intro W hSW; go_simp
  simp only [Act.put, List.setIfInBounds_toArray, List.set_cons_zero, List.set_cons_succ]
  refine wpAnyH_ready (rs := [4, 8]) (by kernel_rfl) (by simp) ?_
  refine AllReadyH.cons rfl (fun KK hKK => ?_) (AllReadyH.cons rfl (fun KK hKK => ?_) AllReadyH.nil)
  · have z4 : wd.cell? ⟨V, 0, none⟩ = some (.iface T x) := by rw [cell_of_row _ _ _ _ _ _ (keep0 HA.out HV.out)]; rfl
    go_simp
    refine hKK.out _ _ hHeld (fun hHeld => ?_)
    clear hKK KK z4
    try simp only [Act.put, List.setIfInBounds_toArray, List.set_cons_zero, List.set_cons_succ]
    refine wpAnyH_ready (rs := [8]) (by kernel_rfl) (by simp) ?_
    refine AllReadyH.cons rfl (fun KK hKK => ?_) AllReadyH.nil
    have z8 : wd.cell? ⟨O, 0, none⟩ = some (.iface T' y) := by rw [cell_of_row _ _ _ _ _ _ (keep0 HA.out HO.out)]; rfl
    go_simp
    refine hKK.out _ _ hHeld (fun hHeld => ?_)
    clear hKK KK z8
    try simp only [Act.put, List.setIfInBounds_toArray, List.set_cons_zero, List.set_cons_succ]
    refine wpAnyH_ready (rs := [9]) (by kernel_rfl) (by simp) ?_
    refine AllReadyH.cons rfl (fun KK hKK => ?_) AllReadyH.nil
    go_simp
    refine (HC.out _ HA.out).mono ?_
    rintro _ w2 ⟨es, rfl, a2, p2⟩
    have HA2 := hid (HA.out.trans a2)
    have HP := hid p2
    have hH2 := hHeld.trans (a2.mono (by simp))
    clear a2 p2
    try dsimp only
    refine hKK.out _ _ hH2 (fun hHeld => ?_)
    clear hKK KK
    try simp only [Act.put, List.setIfInBounds_toArray, List.set_cons_zero, List.set_cons_succ]
    refine tk 10 17 (.iface T (.agg es)) rfl ?_ ?_
    · intro W hSW; go_simp
    simp only [Act.put, List.setIfInBounds_toArray, List.set_cons_zero, List.set_cons_succ]
    refine tk 11 18 (.int .i64 0) rfl ?_ ?_
    · intro W hSW; go_simp
    simp only [Act.put, List.setIfInBounds_toArray, List.set_cons_zero, List.set_cons_succ]
    refine wpAnyH_ready (rs := [12]) (by kernel_rfl) (by simp) ?_
    refine AllReadyH.cons rfl (fun KK hKK => ?_) AllReadyH.nil
    go_simp
    refine (become_ok (keep0 HA2.out HV.out) T (.agg es)).mono ?_
    rintro _ w3 ⟨rfl, b3, a3⟩
    have H3 := hid (And.intro b3 a3)
    have hH3 := hHeld.trans a3
    clear b3 a3
    try dsimp only
    refine hKK.out _ _ hH3 (fun hHeld => ?_)
    clear hKK KK
    try simp only [Act.put, List.setIfInBounds_toArray, List.set_cons_zero, List.set_cons_succ]
    refine tk 13 4 (.int .i64 0) rfl ?_ ?_
    · intro W hSW; go_simp
    simp only [Act.put, List.setIfInBounds_toArray, List.set_cons_zero, List.set_cons_succ]
    refine wpAnyH_done (by kernel_rfl) ?_ _
    clear hHeld
    go_wp2_with fail
    go_ret
    exact ⟨rfl, es, w2, H3.out.1, HA2.out, H3.out.2, HP.out⟩
  · have z8 : wd.cell? ⟨O, 0, none⟩ = some (.iface T' y) := by rw [cell_of_row _ _ _ _ _ _ (keep0 HA.out HO.out)]; rfl
    go_simp
    refine hKK.out _ _ hHeld (fun hHeld => ?_)
    clear hKK KK z8
    try simp only [Act.put, List.setIfInBounds_toArray, List.set_cons_zero, List.set_cons_succ]
    refine wpAnyH_ready (rs := [4]) (by kernel_rfl) (by simp) ?_
    refine AllReadyH.cons rfl (fun KK hKK => ?_) AllReadyH.nil
    have z4 : wd.cell? ⟨V, 0, none⟩ = some (.iface T x) := by rw [cell_of_row _ _ _ _ _ _ (keep0 HA.out HV.out)]; rfl
    go_simp
    refine hKK.out _ _ hHeld (fun hHeld => ?_)
    clear hKK KK z4
    try simp only [Act.put, List.setIfInBounds_toArray, List.set_cons_zero, List.set_cons_succ]
    refine wpAnyH_ready (rs := [9]) (by kernel_rfl) (by simp) ?_
    refine AllReadyH.cons rfl (fun KK hKK => ?_) AllReadyH.nil
    go_simp
    refine (HC.out _ HA.out).mono ?_
    rintro _ w2 ⟨es, rfl, a2, p2⟩
    have HA2 := hid (HA.out.trans a2)
    have HP := hid p2
    have hH2 := hHeld.trans (a2.mono (by simp))
    clear a2 p2
    try dsimp only
    refine hKK.out _ _ hH2 (fun hHeld => ?_)
    clear hKK KK
    try simp only [Act.put, List.setIfInBounds_toArray, List.set_cons_zero, List.set_cons_succ]
    refine tk 10 17 (.iface T (.agg es)) rfl ?_ ?_
    · intro W hSW; go_simp
    simp only [Act.put, List.setIfInBounds_toArray, List.set_cons_zero, List.set_cons_succ]
    refine tk 11 18 (.int .i64 0) rfl ?_ ?_
    · intro W hSW; go_simp
    simp only [Act.put, List.setIfInBounds_toArray, List.set_cons_zero, List.set_cons_succ]
    refine wpAnyH_ready (rs := [12]) (by kernel_rfl) (by simp) ?_
    refine AllReadyH.cons rfl (fun KK hKK => ?_) AllReadyH.nil
    go_simp
    refine (become_ok (keep0 HA2.out HV.out) T (.agg es)).mono ?_
    rintro _ w3 ⟨rfl, b3, a3⟩
    have H3 := hid (And.intro b3 a3)
    have hH3 := hHeld.trans a3
    clear b3 a3
    try dsimp only
    refine hKK.out _ _ hH3 (fun hHeld => ?_)
    clear hKK KK
    try simp only [Act.put, List.setIfInBounds_toArray, List.set_cons_zero, List.set_cons_succ]
    refine tk 13 4 (.int .i64 0) rfl ?_ ?_
    · intro W hSW; go_simp
    simp only [Act.put, List.setIfInBounds_toArray, List.set_cons_zero, List.set_cons_succ]
    refine wpAnyH_done (by kernel_rfl) ?_ _
    clear hHeld
    go_wp2_with fail
    go_ret
    exact ⟨rfl, es, w2, H3.out.1, HA2.out, H3.out.2, HP.out⟩
end Go.Proofs.YtdbeeikjngnnnaaGreat.ty
