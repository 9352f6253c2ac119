import Derived.Test.YtdbeeikjngnnnaaGreatChecked
import Derived.WalkKit
import Derived.ProofKit
import Derived.OpenShut
import Derived.Deep.QuietTactic
import Derived.BigQuiet
import Derived.BigRegion
import Derived.Laws.CopyOwn
import Derived.Laws.IdiomCopy
import Derived.WalkSmall
import Derived.Laws.ResultCell
import Derived.Laws.AppendOwnNone
import Derived.Deep.RegionHeld
import Derived.Deep.DeepAppendRoom
import Derived.Great.BuildSlice
import Derived.Deep.CutBlock
import Derived.Deep.RegionLaw
import Derived.ArgAppend
import Derived.Laws.Strings
import Derived.Laws.StructEq
import Derived.Below
import Derived.Deep.MidRow
import Derived.Great.Ranges
import Derived.Deep.RegionHeld3
import Derived.Laws.NewBlocks
import Derived.OrdersHeld
import Derived.Stop.BytesEq
import Derived.Laws.BytesString
import Derived.Lib.ConvBytes
import Derived.Laws.BitsAllLaws
import Derived.WalkLawsBesides
import Derived.Lib.Bytealg
import Derived.Laws.Externs
import Derived.Lib.SliceRun
import Derived.Lib.AppendZerosOnto
import Derived.Lib.AppendStr
import Derived.Lib.SlBytesConst
import Derived.Sort.Walk0
import Derived.Laws.Cover1
import Derived.Lib.Strings
import Derived.Lib.MinMaxS
import GoSem.Claim
import GoSem.ClaimJoined
import GoSem.ClaimMapViews
import Derived.JoinedTies
import Derived.KernelRfl
import Derived.JoinedCond
import Derived.ShutString
import Derived.ChangeOld
import Derived.Carry
import Derived.ChangeSlices
import Derived.Deep.Slices
import Derived.Deep.DeepHandedRow
import Derived.RowKit
import Derived.ChangeShapes
import Derived.SizedLaws
import Derived.ChangeMaps5
import Derived.Sort.WalkA
import Derived.Test.YtdbeeikjngnnnaaGreatRows
import Derived.Test.YtdbeeikjngnnnaaGreatM45
import Derived.Test.YtdbeeikjngnnnaaGreatM48
import Derived.Test.YtdbeeikjngnnnaaGreatM51
namespace Go.Proofs.YtdbeeikjngnnnaaGreat.ty
open Go.ChangeShapes Go.WideShapes Go.ChangeAt Go.RowKit
set_option linter.unusedVariables false
set_option linter.unusedSimpArgs false
theorem Merge_set {w : World} {V O : Nat} {c d : List Int} {es fs : List En} (hV : Ho w V (.set c es)) (hO : Ho w O (.set d fs)) (ok : Ok (.set c es)) (ok' : Ok (.set d fs)) : Calls Tryz.prog 21 #[.pointer (some ⟨V, 0, none⟩), .pointer (some ⟨O, 0, none⟩)] w fun r w' => r = .returned (.int .i64 0) ∧ Ho w' V (.set (gr c d) (mgE c d es fs)) ∧ Apart [V] w w' := by
  obtain ⟨sa, hV, ea⟩ := hV
  obtain ⟨sb, hO, eb⟩ := hO
  have h1 := ok.2.2.1
  have h2 := ok'.2.2.1
  have l1 := ea.len
  have l2 := eb.len
  refine (Merge_ok (P := fun xs w' => ∃ s', xs = sv (gr c d) s' ∧ Es w' s' (mgE c d es fs)) hV hO (fun wx a => merged_22 (sv_size ok.1.1 _) (sv_one _ _) (sv_size ok'.1.1 _) (sv_one _ _) (fun wy a' => (smerged_ok ok.1.1 ok'.1.1 (ea.kept0 (a.trans a')) (eb.kept0 (a.trans a')) (by omega) (by omega)).mono ?_))).mono ?_
  · rintro _ w' ⟨s', rfl, h, a'⟩
    exact ⟨_, rfl, a', s', rfl, h⟩
  · rintro _ w' ⟨rfl, xs, w2, hb, a1, a2, s', rfl, h⟩
    exact ⟨rfl, ⟨s', hb, h.kept a2 (no106 (keep0 a1 hV))⟩, (a1.mono (by simp)).trans a2⟩
/-- any two values of one type -/
theorem Merge_v {w : World} {V O : Nat} {v o : Vl} (hV : Ho w V v) (hO : Ho w O o) (ok : Ok v) (ok' : Ok o) (e : v.kd = o.kd) : Calls Tryz.prog 21 #[.pointer (some ⟨V, 0, none⟩), .pointer (some ⟨O, 0, none⟩)] w fun r w' => r = .returned (.int .i64 0) ∧ Ho w' V (mgV v o) ∧ Apart [V] w w' := by
  revert hV hO ok ok'
  refine Vl.two (motive := fun v o => Ho w V v → Ho w O o → Ok v → Ok o → Calls Tryz.prog 21 #[.pointer (some ⟨V, 0, none⟩), .pointer (some ⟨O, 0, none⟩)] w fun r w' => r = .returned (.int .i64 0) ∧ Ho w' V (mgV v o) ∧ Apart [V] w w') ?_ ?_ ?_ ?_ v o e
  · exact fun u d p q hV hO ok ok' => Merge_cnt hV hO ok ok'
  · exact fun c es d fs hV hO ok ok' => Merge_set hV hO ok ok'
  · exact fun c g d f hV hO ok ok' => Merge_flg hV hO ok ok'
  · exact fun x y hV hO ok ok' => Merge_rgs hV hO
/-- nothing is merged in -/
theorem Merge_nil {w : World} (V : Nat) : Calls Tryz.prog 21 #[.pointer (some ⟨V, 0, none⟩), .pointer none] w fun r w' => r = .returned (.int .i64 190) ∧ Apart [] w w' := by
  have HA := hid (Apart.refl [] w)
  go_enter Tryz.func21, Tryz.ntmps21
  go_wp2_with fail
  go_ret
  exact ⟨rfl, HA.out⟩
end Go.Proofs.YtdbeeikjngnnnaaGreat.ty
namespace Go.Proofs.YtdbeeikjngnnnaaGreat.ty
open Go.ChangeShapes Go.WideShapes Go.ChangeAt Go.RowKit
set_option linter.unusedVariables false
set_option linter.unusedSimpArgs false
variable {wB w w' w2 : World} {T k : Nat} {p r : Nat → Nat} {v : Nat → Vl} {ts : Nat → List Tg} {H L : List Sl} {sH sL : Sl} {h : Nat → Prop}
theorem To.nil : To [] := ⟨by simp, List.Pairwise.nil⟩
theorem Rl.to {v : Vl} {ts : List Tg} (h : Rl v ts) : To ts := by
  cases v using Vl.el with
  | cnt u d => rw [show ts = [] from h]; exact To.nil
  | set c es => exact h.1.og
  | flg c g => exact h.1.og
  | rgs s a t => rw [show ts = [] from h]; exact To.nil
theorem tbC_r (k : Nat) (p r : Nat → Nat) (sH sL : Sl) {i : Nat} (hi : i < 4) (X : Nat) : (tbC k p r sH sL).set (5 + i) (ptV X) = tbC k p (upd r i X) sH sL := by
  obtain rfl | rfl | rfl | rfl : i = 0 ∨ i = 1 ∨ i = 2 ∨ i = 3 := by omega
  all_goals rfl
set_option maxHeartbeats 4000000 in
set_option maxRecDepth 100000 in
theorem step6 (t : Tb wB w T k p r v ts H L sH sL h) {I J a b : Int} {on : Bool} {sl : Sl} : Calls Tryz.prog 11 #[.pointer (some ⟨T, 0, none⟩), .agg (opC 6 I J a b on sl)] w fun x w' => StP wB T k H L x w' := by
  obtain ⟨i, hi, hmask⟩ := mask3 I
  obtain ⟨j, hj, hmask2⟩ := mask3 J
  have HT := hid t
  have Hi := hid hi
  have Hj := hid hj
  have Hi4 : Hid (¬ (4 : Int) ≤ (i : Int)) := hid (by omega)
  have Hj4 : Hid (¬ (4 : Int) ≤ (j : Int)) := hid (by omega)
  obtain ⟨A, HAe⟩ : ∃ A, Hid (A = w.heap.size) := ⟨_, hid rfl⟩
  obtain ⟨w1, Hw1⟩ : ∃ W, Hid (W = w.alloc (.cells (opC 6 I J a b on sl) 31)) := ⟨_, hid rfl⟩
  have HA1 : Hid (Apart [] w w1) := hid (by rw [Hw1.out]; exact (Apart.refl [] w).alloc _)
  have HBA : Hid (w1.heap[A]? = some (.cells (opC 6 I J a b on sl) 31 (0, 0))) := hid (by rw [HAe.out, Hw1.out]; exact heap_alloc_new w _)
  have HT1 := hid (HT.out.kept0 HA1.out)
  have za0 : w1.cell? ⟨A, 0, none⟩ = some (.int .i64 6) := by rw [cell_of_row _ _ _ _ _ _ HBA.out]; rfl
  have za1 : w1.cell? ⟨A, 1, none⟩ = some (.int .i64 I) := by rw [cell_of_row _ _ _ _ _ _ HBA.out]; rfl
  have za2 : w1.cell? ⟨A, 2, none⟩ = some (.int .i64 J) := by rw [cell_of_row _ _ _ _ _ _ HBA.out]; rfl
  clear t hj hi
  go_enter Tryz.func11, Tryz.ntmps11
  go_upto_region 1 with fail
  rw [← HAe.out, ← Hw1.out]
  clear Hw1 HAe
  go_upto_region 6 with fail
  clear za0 za1 za2
  have HTl := hid (lt_of_heap HT1.out.blk)
  have HTp : Hid (T ≠ p i) := hid (fun e => by
    obtain ⟨b0, hb0⟩ := HT1.out.bdP Hi.out
    rw [← e, HT1.out.blk] at hb0
    simp at hb0)
  have Hkd : Hid ((v i).kd = (v j).kd) := hid ((HT1.out.kd i Hi.out).trans (HT1.out.kd j Hj.out).symm)
  have HM : Hid (∀ W, Apart [] w1 W → Calls Tryz.prog 21 #[.pointer (some ⟨p i, 0, none⟩), .pointer (some ⟨p j, 0, none⟩)] W fun x w' => x = .returned (.int .i64 0) ∧ Ho w' (p i) (mgV (v i) (v j)) ∧ Apart [p i] W w') := hid (fun W aW => Merge_v ((HT1.out.kept0 aW).pv i Hi.out) ((HT1.out.kept0 aW).pv j Hj.out) ((HT1.out.rl i Hi.out).ok (HT1.out.iv i Hi.out).gt.1) ((HT1.out.rl j Hj.out).ok (HT1.out.iv j Hj.out).gt.1) Hkd.out)
  have hAd : Apart [p i] w1 w1.drew := (Apart.refl [p i] w1).drew
  have hA0 : Apart [] w1 w1.drew := (Apart.refl [] w1).drew
  refine wp_region_held_drew (S := fun W => Apart [p i] w1 W) (by kernel_rfl) hAd (fun hHeld => ?_)
  generalize w1.drew = wd at *
  clear hAd
  refine tk 0 34 (.pointer (some ⟨T, 0, none⟩)) rfl ?_ ?_
  · intro W hSW; go_simp
  simp only [Act.put, List.setIfInBounds_toArray, List.set_cons_zero, List.set_cons_succ]
  refine tk 1 35 (.int .i64 (i : Nat)) rfl ?_ ?_
  · intro W hSW; go_simp
  simp only [Act.put, List.setIfInBounds_toArray, List.set_cons_zero, List.set_cons_succ]
  refine tk 2 36 (.pointer (some ⟨T, 0, none⟩)) rfl ?_ ?_
  · intro W hSW; go_simp
  simp only [Act.put, List.setIfInBounds_toArray, List.set_cons_zero, List.set_cons_succ]
  refine tk 3 37 (.pointer (some ⟨T, 1, none⟩)) rfl ?_ ?_
  · intro W hSW; go_simp
  simp only [Act.put, List.setIfInBounds_toArray, List.set_cons_zero, List.set_cons_succ]
  refine tk 4 38 (.pointer (some ⟨T, 1 + i, none⟩)) rfl ?_ ?_
  · intro W hSW; have h4 := Hi4.out; have h5 := Hj4.out; go_simp
  simp only [Act.put, List.setIfInBounds_toArray, List.set_cons_zero, List.set_cons_succ]
  refine tk 5 39 (.pointer (some ⟨(p i), 0, none⟩)) rfl ?_ ?_
  · intro W hSW; have z : W.cell? ⟨T, 1 + i, none⟩ = some (.pointer (some ⟨p i, 0, none⟩)) := (hSW.cell HTl.out (by simpa using HTp.out)).trans (HT1.out.cp Hi.out); go_simp
  simp only [Act.put, List.setIfInBounds_toArray, List.set_cons_zero, List.set_cons_succ]
  refine tk 6 40 (.pointer (some ⟨T, 0, none⟩)) rfl ?_ ?_
  · intro W hSW; go_simp
  simp only [Act.put, List.setIfInBounds_toArray, List.set_cons_zero, List.set_cons_succ]
  refine tk 7 41 (.int .i64 (j : Nat)) rfl ?_ ?_
  · intro W hSW; go_simp
  simp only [Act.put, List.setIfInBounds_toArray, List.set_cons_zero, List.set_cons_succ]
  refine tk 8 42 (.pointer (some ⟨T, 0, none⟩)) rfl ?_ ?_
  · intro W hSW; go_simp
  simp only [Act.put, List.setIfInBounds_toArray, List.set_cons_zero, List.set_cons_succ]
  refine tk 9 43 (.pointer (some ⟨T, 1, none⟩)) rfl ?_ ?_
  · intro W hSW; go_simp
  simp only [Act.put, List.setIfInBounds_toArray, List.set_cons_zero, List.set_cons_succ]
  refine tk 10 44 (.pointer (some ⟨T, 1 + j, none⟩)) rfl ?_ ?_
  · intro W hSW; have h4 := Hi4.out; have h5 := Hj4.out; go_simp
  simp only [Act.put, List.setIfInBounds_toArray, List.set_cons_zero, List.set_cons_succ]
  refine tk 11 45 (.pointer (some ⟨(p j), 0, none⟩)) rfl ?_ ?_
  · intro W hSW; have z : W.cell? ⟨T, 1 + j, none⟩ = some (.pointer (some ⟨p j, 0, none⟩)) := (hSW.cell HTl.out (by simpa using HTp.out)).trans (HT1.out.cp Hj.out); go_simp
  simp only [Act.put, List.setIfInBounds_toArray, List.set_cons_zero, List.set_cons_succ]
  refine wpAnyH_ready (rs := [12]) (by kernel_rfl) (by simp) ?_
  refine AllReadyH.cons rfl (fun KK hKK => ?_) AllReadyH.nil
  go_simp
  refine (HM.out wd hA0).mono ?_
  rintro _ wa ⟨rfl, hv, aX⟩
  have hHx : Apart [p i] w1 wa := (hA0.mono (by simp)).trans aX
  try dsimp only
  refine hKK.out _ _ hHx (fun hHeld => ?_)
  clear hKK KK
  try simp only [Act.put, List.setIfInBounds_toArray, List.set_cons_zero, List.set_cons_succ]
  refine tk 13 7 (.int .i64 0) rfl ?_ ?_
  · intro W hSW; go_simp
  simp only [Act.put, List.setIfInBounds_toArray, List.set_cons_zero, List.set_cons_succ]
  refine wpAnyH_done (by kernel_rfl) ?_ _
  have HA2 := hid hHeld
  have HV2 := hid hv
  clear hHeld hv aX hA0
  generalize wa = w2 at *
  have HX2 : Hid (∀ ty : Nat, ty ≠ 71 → ∀ q ∈ [p i], ∀ cur m, w1.heap[q]? ≠ some (.cells cur ty m)) := hid (fun ty hty q hq cur m e => by
    obtain ⟨b0, hb0⟩ := HT1.out.bdP Hi.out
    rw [List.mem_singleton.1 hq, hb0] at e
    simp only [Option.some.injEq, Obj.cells.injEq] at e
    exact hty e.2.1.symm)
  obtain ⟨si, hsi⟩ := HT1.out.rv i Hi.out
  obtain ⟨sj, hsj⟩ := HT1.out.rv j Hj.out
  have hnp : ∀ {q : Nat} {rr : Rv} {ss : Sl}, Dk w1 q rr ss → q ∉ [p i] := fun {q rr ss} hd hm => by
    obtain ⟨b0, hb0⟩ := HT1.out.bdP Hi.out
    have e := hd.dv.blk
    rw [List.mem_singleton.1 hm, hb0] at e
    simp at e
  have HDi := hid (hsi.other HA2.out (hnp hsi) (HX2.out _ (by decide)))
  have HDj := hid (hsj.other HA2.out (hnp hsj) (HX2.out _ (by decide)))
  have HTb2 : Hid (w2.heap[T]? = some (.cells (tbC k p r sH sL).toArray 49 (0, 0))) := hid ((HA2.out.block T HTl.out (by simpa using HTp.out)).trans HT1.out.blk)
  have HTl2 := hid (lt_of_heap HTb2.out)
  have HTri : Hid (w2.cell? ⟨T, 5 + i, none⟩ = some (.pointer (some ⟨r i, 0, none⟩))) := hid (dcell HTb2.out (tb_r _ _ _ _ _ Hi.out))
  have HTrj : Hid (w2.cell? ⟨T, 5 + j, none⟩ = some (.pointer (some ⟨r j, 0, none⟩))) := hid (dcell HTb2.out (tb_r _ _ _ _ _ Hj.out))
  clear hsi hsj hnp
  have Hli := hid (HT1.out.rl i Hi.out)
  have Hlj := hid (HT1.out.rl j Hj.out)
  have Hii := hid (HT1.out.iv i Hi.out)
  have Hij := hid (HT1.out.iv j Hj.out)
  obtain ⟨D, HDe⟩ : ∃ x, Hid (x = mgD (rvO (v i) (ts i)) (rvO (v j) (ts j)) (lateB (rvO (v i) (ts i)) (rvO (v j) (ts j)))) := ⟨_, hid rfl⟩
  have HD : Hid (∀ W, Apart [] w2 W → Calls Tryz.prog 22 #[.pointer (some ⟨r i, 0, none⟩), .pointer (some ⟨r j, 0, none⟩)] W fun x w' => ∃ X, x = .returned (.tuple #[.pointer (some ⟨X, 0, none⟩), .int .i64 0]) ∧ W.heap.size ≤ X ∧ Apart [] W w' ∧ ∃ s', Dk w' X D s') := hid (fun W aW => by
    rw [HDe.out]
    exact rmerge_ok (HDi.out.kept0 aW) (HDj.out.kept0 aW) (by rw [rvO_k, rvO_k]; exact Hkd.out) (by rw [rvO_ts]; exact Hli.out.to) (by rw [rvO_ts]; exact Hlj.out.to) (by rw [rvO_ts]; have := Hli.out.len; omega) (by rw [rvO_ts]; have := Hlj.out.len; omega))
  go_upto_region 7 with fail
  have hAd : Apart [] w2 w2.drew := (Apart.refl [] w2).drew
  refine wp_region_held_drew (S := fun W => Apart [] w2 W) (by kernel_rfl) hAd (fun hHeld => ?_)
  generalize w2.drew = wd at *
  clear hAd
  refine tk 0 48 (.pointer (some ⟨T, 0, none⟩)) rfl ?_ ?_
  · intro W hSW; go_simp
  simp only [Act.put, List.setIfInBounds_toArray, List.set_cons_zero, List.set_cons_succ]
  refine tk 1 49 (.int .i64 (i : Nat)) rfl ?_ ?_
  · intro W hSW; go_simp
  simp only [Act.put, List.setIfInBounds_toArray, List.set_cons_zero, List.set_cons_succ]
  refine tk 2 50 (.pointer (some ⟨T, 0, none⟩)) rfl ?_ ?_
  · intro W hSW; go_simp
  simp only [Act.put, List.setIfInBounds_toArray, List.set_cons_zero, List.set_cons_succ]
  refine tk 3 51 (.pointer (some ⟨T, 5, none⟩)) rfl ?_ ?_
  · intro W hSW; go_simp
  simp only [Act.put, List.setIfInBounds_toArray, List.set_cons_zero, List.set_cons_succ]
  refine tk 4 52 (.pointer (some ⟨T, 5 + i, none⟩)) rfl ?_ ?_
  · intro W hSW; have h4 := Hi4.out; have h5 := Hj4.out; go_simp
  simp only [Act.put, List.setIfInBounds_toArray, List.set_cons_zero, List.set_cons_succ]
  refine tk 5 53 (.pointer (some ⟨(r i), 0, none⟩)) rfl ?_ ?_
  · intro W hSW; have z : W.cell? ⟨T, 5 + i, none⟩ = some (.pointer (some ⟨r i, 0, none⟩)) := (hSW.cell HTl2.out (by simp)).trans HTri.out; go_simp
  simp only [Act.put, List.setIfInBounds_toArray, List.set_cons_zero, List.set_cons_succ]
  refine tk 6 54 (.pointer (some ⟨T, 0, none⟩)) rfl ?_ ?_
  · intro W hSW; go_simp
  simp only [Act.put, List.setIfInBounds_toArray, List.set_cons_zero, List.set_cons_succ]
  refine tk 7 55 (.int .i64 (j : Nat)) rfl ?_ ?_
  · intro W hSW; go_simp
  simp only [Act.put, List.setIfInBounds_toArray, List.set_cons_zero, List.set_cons_succ]
  refine tk 8 56 (.pointer (some ⟨T, 0, none⟩)) rfl ?_ ?_
  · intro W hSW; go_simp
  simp only [Act.put, List.setIfInBounds_toArray, List.set_cons_zero, List.set_cons_succ]
  refine tk 9 57 (.pointer (some ⟨T, 5, none⟩)) rfl ?_ ?_
  · intro W hSW; go_simp
  simp only [Act.put, List.setIfInBounds_toArray, List.set_cons_zero, List.set_cons_succ]
  refine tk 10 58 (.pointer (some ⟨T, 5 + j, none⟩)) rfl ?_ ?_
  · intro W hSW; have h4 := Hi4.out; have h5 := Hj4.out; go_simp
  simp only [Act.put, List.setIfInBounds_toArray, List.set_cons_zero, List.set_cons_succ]
  refine tk 11 59 (.pointer (some ⟨(r j), 0, none⟩)) rfl ?_ ?_
  · intro W hSW; have z : W.cell? ⟨T, 5 + j, none⟩ = some (.pointer (some ⟨r j, 0, none⟩)) := (hSW.cell HTl2.out (by simp)).trans HTrj.out; go_simp
  simp only [Act.put, List.setIfInBounds_toArray, List.set_cons_zero, List.set_cons_succ]
  refine wpAnyH_ready (rs := [12]) (by kernel_rfl) (by simp) ?_
  refine AllReadyH.cons rfl (fun KK hKK => ?_) AllReadyH.nil
  go_simp
  have hHd0 := hHeld
  refine (HD.out wd hHeld).mono ?_
  rintro _ wa ⟨X, rfl, hXw, aX, sX, kX⟩
  have hHx := hHeld.trans aX
  try dsimp only
  refine hKK.out _ _ hHx (fun hHeld => ?_)
  clear hKK KK
  try simp only [Act.put, List.setIfInBounds_toArray, List.set_cons_zero, List.set_cons_succ]
  refine tk 13 47 (.tuple #[.pointer (some ⟨X, 0, none⟩), .int .i64 0]) rfl ?_ ?_
  · intro W hSW; go_simp
  simp only [Act.put, List.setIfInBounds_toArray, List.set_cons_zero, List.set_cons_succ]
  refine tk 14 61 (.pointer (some ⟨X, 0, none⟩)) rfl ?_ ?_
  · intro W hSW; go_simp
  simp only [Act.put, List.setIfInBounds_toArray, List.set_cons_zero, List.set_cons_succ]
  refine tk 15 62 (.int .i64 0) rfl ?_ ?_
  · intro W hSW; go_simp
  simp only [Act.put, List.setIfInBounds_toArray, List.set_cons_zero, List.set_cons_succ]
  refine tk 16 8 (.pointer (some ⟨X, 0, none⟩)) rfl ?_ ?_
  · intro W hSW; go_simp
  simp only [Act.put, List.setIfInBounds_toArray, List.set_cons_zero, List.set_cons_succ]
  refine tk 17 9 (.int .i64 0) rfl ?_ ?_
  · intro W hSW; go_simp
  simp only [Act.put, List.setIfInBounds_toArray, List.set_cons_zero, List.set_cons_succ]
  refine wpAnyH_done (by kernel_rfl) ?_ _
  have HA3 := hid hHeld
  have HXk := hid kX
  have HXw := hid hXw
  have HAw2 : Hid (Apart [] w2 wd) := hid hHd0
  clear hHeld kX aX hXw
  generalize wa = w3 at *
  have HXd := HXk
  clear HXk HD
  have HTb3 : Hid (w3.heap[T]? = some (.cells (tbC k p r sH sL).toArray 49 (0, 0))) := hid (keep0 HA3.out HTb2.out)
  have HV3 := hid (HV2.out.kept0 HA3.out)
  have z5 : w3.cell? ⟨T, 5 + i, none⟩ = some (.pointer (some ⟨r i, 0, none⟩)) := dcell HTb3.out (tb_r _ _ _ _ _ Hi.out)
  have f5 : w3.frozen? ⟨T, 5 + i, none⟩ = false := frozen_of_row _ _ _ _ _ HTb3.out
  have hi4 := Hi4.out
  go_upto_region 9 with fail
  clear z5 f5 hi4
  have HTb4 : Hid ((w3.setCell ⟨T, 5 + i, none⟩ (.pointer (some ⟨X, 0, none⟩))).heap[T]? = some (.cells (tbC k p (upd r i X) sH sL).toArray 49 (0, 0))) := hid (by
    rw [heap_setCell_same w3 T (5 + i) _ 49 _ HTb3.out, List.setIfInBounds_toArray]
    have := tbC_r k p r sH sL Hi.out X
    unfold ptV at this
    rw [this])
  have HA4 : Hid (Apart [T] w3 (w3.setCell ⟨T, 5 + i, none⟩ (.pointer (some ⟨X, 0, none⟩)))) := hid ((Apart.refl [T] w3).setCell (.inl (by simp)) _)
  generalize w3.setCell ⟨T, 5 + i, none⟩ (.pointer (some ⟨X, 0, none⟩)) = w4 at *
  have HXT : Hid (∀ ty : Nat, ty ≠ 49 → ∀ q ∈ [T], ∀ cur m, w3.heap[q]? ≠ some (.cells cur ty m)) := hid (fun ty hty q hq cur m e => by
    rw [List.mem_singleton.1 hq, HTb3.out] at e
    simp only [Option.some.injEq, Obj.cells.injEq] at e
    exact hty e.2.1.symm)
  have HV4 : Hid (Ho w4 (p i) (mgV (v i) (v j))) := hid (HV3.out.keptX HA4.out (fun hm => HTp.out (List.mem_singleton.1 hm).symm) (HXT.out _ (by decide)))
  have HD4 : Hid (Dk w4 X D sX) := hid (HXd.out.other HA4.out (fun hm => by
    have e := HXd.out.dv.blk
    rw [List.mem_singleton.1 hm, HTb3.out] at e
    simp at e) (HXT.out _ (by decide)))
  have HDr : Hid (D = rvO (mgV (v i) (v j)) (mergeT (ts i) (rvO (v i) (ts i)).c (ts j) (rvO (v j) (ts j)).c)) := hid (by rw [HDe.out]; exact rvO_mg Hli.out Hlj.out Hii.out Hij.out Hkd.out)
  have HA14 : Hid (Apart [p i, r i, T] w1 w4) := hid (((HA2.out.mono (by simp)).trans (HA3.out.mono (by simp))).trans (HA4.out.mono (by simp)))
  have HXn : Hid (w1.heap.size ≤ X) := hid (Nat.le_trans HA2.out.size (Nat.le_trans HAw2.out.size HXw.out))
  have HT4 := hid (HT1.out.next Hi.out (p' := p i) (r' := X) HA14.out (by rw [upd_self]; exact HTb4.out) (.inl rfl) (.inr HXn.out) HV4.out (by rw [← HDr.out]; exact HD4.out) (Hii.out.mg Hij.out Hkd.out) (Hli.out.mg Hlj.out Hii.out Hij.out Hkd.out) (by rw [mgV_kd]; exact HT1.out.kd i Hi.out))
  have zp : w4.cell? ⟨T, 1 + i, none⟩ = some (.pointer (some ⟨p i, 0, none⟩)) := by
    have := HT4.out.cp Hi.out
    rw [upd_same] at this
    exact this
  have hi4 := Hi4.out
  have HMn := hid (Merge_nil (w := w4) (p i))
  go_wp2_with (
    go_at_call 21
    refine HMn.out.mono ?_
    rintro _ w5 ⟨rfl, a5⟩
    have HA5 := hid a5
    clear a5)
  go_ret
  exact ⟨rfl, _, _, _, _, H, L, sH, sL, h, HT4.out.kept0 HA5.out, by omega, by omega, fun x hx => .inl hx, fun x hx => .inl hx⟩
end Go.Proofs.YtdbeeikjngnnnaaGreat.ty
namespace Go.Proofs.YtdbeeikjngnnnaaGreat.ty
open Go.ChangeShapes Go.WideShapes Go.ChangeAt Go.RowKit
set_option linter.unusedVariables false
set_option linter.unusedSimpArgs false
theorem step_merges (wB : World) (k : Nat) : StepOk wB k 6 6 := by
  intro w T p r v ts H L sH sL h o t ha gv hB hH hL
  by_cases h6 : o.K = 6
  · obtain ⟨K, I, J, a, b, on, sl, bs⟩ := o
    obtain rfl : K = 6 := h6
    exact step6 t
  · refine step_done wB k w T p r v ts H L sH sL h o t ?_ gv hB hH hL
    unfold Alw at ha ⊢
    omega
/-- TypesMerges -/
theorem merges_walk {w : World} (z : Int) {s : Sl} {os : List Opx} (hs : Sr w s os) (hn : os.length ≤ 1100000) : Calls Tryz.prog 4 #[.int .i64 z, .slice s.p s.n s.c] w fun x w' => x = .returned (.bool true) ∧ Apart [] w w' := by
  have HA := hid (plays_any z hs hn 6 6 (fun k _ _ w1 _ => step_merges w1 k))
  clear hs hn
  go_enter Tryz.func4, Tryz.ntmps4
  go_wp2_with (go_at_call 8; refine HA.out.mono ?_; rintro _ w1 ⟨rfl, a1⟩; have HA1 := hid a1; clear a1)
  go_ret
  exact ⟨rfl, HA1.out⟩
end Go.Proofs.YtdbeeikjngnnnaaGreat.ty
namespace Go.Proofs.YtdbeeikjngnnnaaGreat.ty
open Go.ChangeShapes Go.WideShapes Go.ChangeAt Go.RowKit Go.ChangeMaps Go.Deep
set_option linter.unusedVariables false
set_option linter.unusedSimpArgs false
set_option maxRecDepth 100000 in
theorem merges_lifted (os : Os) (started : os.Started) (H : Type) (enc : TypeId × Value → H) (F : Stop.Interp) :
    ReturnsInHanded {} Tryz.checked os 4 .any ((Rows.OpenSpec.upto Rows.typesMergesSpec).pre6 enc Tryz.prog Tryz.f4 Rows.typesMergesUptoRow.domain false) (((Rows.OpenSpec.upto Rows.typesMergesSpec).at F).post enc Tryz.prog Tryz.f4 false true false false) := by
  refine returnsInHanded_of_cond (C := Tryz.checked) (s := (Rows.OpenSpec.upto Rows.typesMergesSpec)) (k := Rows.uptoSmall) rfl own started (by kernel_rfl) Tryz.func4
    (OpenSpec.witness (enc := enc) (C := Tryz.checked) (s := (Rows.OpenSpec.upto Rows.typesMergesSpec)) (k := Rows.uptoSmall) rfl false ⟨#[], #[.int .i64 0, .slice none 0 0], []⟩ 8 (by kernel_rfl) (by kernel_rfl) (by kernel_rfl)
      (x := ([.lit (.int .i64 0), .nil], [], [])) (by kernel_rfl) rfl (by kernel_rfl)) ?_
  intro W base args ds gs before hval0 hW _ hk _
  have hval : ∀ (j : Nat) t v, Tryz.f4.params[j]? = some t → args[j]? = some v → Value.okWide Tryz.prog W .any base t v := hval0
  have hW' := hW
  obtain ⟨p, q, hA0, hV, rfl, hfz, hnd⟩ := hW
  have hA : DataW.TrodAll enc Tryz.prog W 0 (fun _ => true) true Tryz.f4.params.toList args.toList ds p := hA0
  rw [Tryz.params4] at hA hval
  obtain ⟨v0, vs0, d0, ds0, p0, q0, hargs0, rfl, rfl, h0, r0⟩ := trodAll_cons hA
  obtain ⟨v1, vs1, d1, ds1, p1, q1, hargs1, rfl, rfl, h1, r1⟩ := trodAll_cons r0
  obtain ⟨rfl, rfl, rfl⟩ := trodAll_nil r1
  obtain rfl : args = #[v0, v1] := by cases args; simp_all
  obtain ⟨rfl, rfl⟩ := trodVars_none hV
  have k0 := h0
  have lt0 : ∀ x ∈ p0, x.block < W.heap.size := by obtain ⟨m, hm⟩ := k0; exact DataW.trod_lt m _ _ _ hm
  obtain ⟨z0, rfl, _, _, wf0⟩ := open_int Tryz.underlying3 (hval 0 3 v0 rfl rfl) h0
  have hz0 : -9223372036854775808 ≤ z0 ∧ z0 ≤ 9223372036854775807 := by
    simp [Lit.wf, IntKind.bits, IntKind.signed, IntKind.min, IntKind.max] at wf0
    omega
  have k1 := h1
  have lt1 : ∀ x ∈ p1, x.block < W.heap.size := by obtain ⟨m, hm⟩ := k1; exact DataW.trod_lt m _ _ _ hm
  obtain ⟨a1, len1, cap1, rfl⟩ := okWide_slice Tryz.underlying22 (hval 1 22 v1 rfl rfl)
  obtain ⟨s1, os1, hs1, sr1, hn1⟩ : ∃ (s : Sl) (os : List Opx), Value.slice a1 len1 cap1 = .slice s.p s.n s.c ∧ Sr W s os ∧ os.length ≤ 1100000 := by
    obtain ⟨fuel, hf⟩ := h1
    refine open_ops hf ?_
    have hb : Rows.uptoBulkAll ([d0, d1] ++ []) ≤ 1048576 := of_decide_eq_true hk
    rw [List.append_nil] at hb
    simp only [all_cons, all_nil] at hb
    show Rows.uptoBulk d1 ≤ 1048576
    omega
  simp only [Value.slice.injEq] at hs1
  obtain ⟨rfl, rfl, rfl⟩ := hs1

  clear hA0 hval0
  refine (merges_walk (w := W) z0 sr1 hn1).mono fun e W' ⟨he, ap⟩ => ?_
  subst he
  have bel : Below W.heap.size W W' := ap.below (Nat.le_refl _) (by simp)
  exact ⟨_, rfl, _, _, _, [], _, [], hW', trodAll_mk1 (shut_bool Tryz.underlying4 _), (trodAll_cons_mk (Below.trod laidOut (by kernel_rfl) (of_decide_eq_true (by kernel_rfl)) k0 bel lt0) (trodAll_cons_mk (Below.trod laidOut (by kernel_rfl) (of_decide_eq_true (by kernel_rfl)) k1 bel lt1) trodAll_mk0)), rfl, bel.frame _, fun h => by cases h⟩
theorem merges_over : Rows.TypesMergesUptoSaid :=
  OpenClaim.holds_of_cond 4 Tryz.f4 rfl rfl rfl rfl rfl rfl rfl ⟨rfl, rfl, rfl, rfl, rfl⟩ rfl rfl rfl rfl rfl (by kernel_rfl) Tryz.func4 (by kernel_rfl)
    (of_decide_eq_true (by kernel_rfl)) (by unfold Func.isWrapper; first | (rw [if_pos (by decide +kernel)]; kernel_rfl) | (rw [if_neg (by decide +kernel)]; exact ⟨rfl, rfl⟩))
    (fun os started H enc _ F => merges_lifted os started H enc F)
end Go.Proofs.YtdbeeikjngnnnaaGreat.ty
namespace Go.Proofs.YtdbeeikjngnnnaaGreat
theorem typesMerges_holds : Rows.TypesMergesUptoSaid := ty.merges_over
end Go.Proofs.YtdbeeikjngnnnaaGreat
