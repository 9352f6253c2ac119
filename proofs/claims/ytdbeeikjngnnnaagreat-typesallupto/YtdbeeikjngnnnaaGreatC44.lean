import Derived.Test.YtdbeeikjngnnnaaGreatC40
import Derived.Test.YtdbeeikjngnnnaaGreatC41
import Derived.Test.YtdbeeikjngnnnaaGreatC43
namespace Go.Proofs.YtdbeeikjngnnnaaGreat.ty
open Go.ChangeShapes Go.WideShapes Go.ChangeAt Go.RowKit
set_option linter.unusedVariables false
set_option linter.unusedSimpArgs false
set_option maxRecDepth 100000
set_option maxHeartbeats 8000000
theorem Merge_set {w : World} {V O : Nat} {c d : List Int} {es fs : List En} (hV : Ho w V (.set c es)) (hO : Ho w O (.set d fs)) (ok : Ok (.set c es)) (ok' : Ok (.set d fs)) : Calls Tryz.prog 21 #[.pointer (some ⟨V, 0, none⟩), .pointer (some ⟨O, 0, none⟩)] w fun r w' => r = .returned (.int .i64 0) ∧ Ho w' V (.set (gr c d) (mgE c d es fs)) ∧ Apart [V] w w' := by
 obtain ⟨sa, hV, ea⟩ := hV
 obtain ⟨sb, hO, eb⟩ := hO
 have h1 := ok.2.2.1
 have h2 := ok'.2.2.1
 have l1 := ea.len
 have l2 := eb.len
 refine (Merge_ok (P := fun xs w' => ∃ s', xs = sv (gr c d) s' ∧ Es w' s' (mgE c d es fs)) hV hO (fun wx a => merged_22 (sv_size ok.1.1 _) (sv_one _ _) (sv_size ok'.1.1 _) (sv_one _ _) (fun wy a' => (smerged_ok ok.1.1 ok'.1.1 (ea.kept0 (a.trans a')) (eb.kept0 (a.trans a')) (by omega) (by omega)).mono ?_))).mono ?_
 ·rintro _ w' ⟨s', rfl, h, a'⟩
  exact ⟨_, rfl, a', s', rfl, h⟩
 ·rintro _ w' ⟨rfl, xs, w2, hb, a1, a2, s', rfl, h⟩
  exact ⟨rfl, ⟨s', hb, h.kept a2 (no106 (keep0 a1 hV))⟩, (a1.mono (by simp)).trans a2⟩
theorem Merge_v {w : World} {V O : Nat} {v o : Vl} (hV : Ho w V v) (hO : Ho w O o) (ok : Ok v) (ok' : Ok o) (e : v.kd = o.kd) : Calls Tryz.prog 21 #[.pointer (some ⟨V, 0, none⟩), .pointer (some ⟨O, 0, none⟩)] w fun r w' => r = .returned (.int .i64 0) ∧ Ho w' V (mgV v o) ∧ Apart [V] w w' := by
 revert hV hO ok ok'
 refine Vl.two (motive := fun v o => Ho w V v → Ho w O o → Ok v → Ok o → Calls Tryz.prog 21 #[.pointer (some ⟨V, 0, none⟩), .pointer (some ⟨O, 0, none⟩)] w fun r w' => r = .returned (.int .i64 0) ∧ Ho w' V (mgV v o) ∧ Apart [V] w w') ?_ ?_ ?_ ?_ v o e
 ·exact fun u d p q hV hO ok ok' => Merge_cnt hV hO ok ok'
 ·exact fun c es d fs hV hO ok ok' => Merge_set hV hO ok ok'
 ·exact fun c g d f hV hO ok ok' => Merge_flg hV hO ok ok'
 ·exact fun x y hV hO ok ok' => Merge_rgs hV hO
theorem Merge_nil {w : World} (V : Nat) : Calls Tryz.prog 21 #[.pointer (some ⟨V, 0, none⟩), .pointer none] w fun r w' => r = .returned (.int .i64 190) ∧ Apart [] w w' := by
 have HA := hid (Apart.refl [] w)
 go_enter Tryz.func21, Tryz.ntmps21
 go_wp2_with fail
 go_ret
 exact ⟨rfl, HA.out⟩
variable {wB w w' w2 : World} {T k : Nat} {p r : Nat → Nat} {v : Nat → Vl} {ts : Nat → List Tg} {H L : List Sl} {sH sL : Sl} {h : Nat → Prop}
theorem To.nil : To [] := ⟨by simp, List.Pairwise.nil⟩
theorem Rl.to {v : Vl} {ts : List Tg} (h : Rl v ts) : To ts := by
 cases v using Vl.el with
 | cnt u d => rw [show ts = [] from h]; exact To.nil
 | set c es => exact h.1.og
 | flg c g => exact h.1.og
 | rgs s a t => rw [show ts = [] from h]; exact To.nil
theorem tbC_r (k : Nat) (p r : Nat → Nat) (sH sL : Sl) {i : Nat} (hi : i < 4) (X : Nat) : (tbC k p r sH sL).set (5 + i) (ptV X) = tbC k p (upd r i X) sH sL := by
 obtain rfl | rfl | rfl | rfl : i = 0 ∨ i = 1 ∨ i = 2 ∨ i = 3 := by omega
 all_goals rfl
theorem step6 (t : Tb wB w T k p r v ts H L sH sL h) {I J a b : Int} {on : Bool} {sl : Sl} : Calls Tryz.prog 11 #[.pointer (some ⟨T, 0, none⟩), .agg (opC 6 I J a b on sl)] w fun x w' => StP wB T k H L x w' := by
 obtain ⟨i, hi, hmask⟩ := mask3 I
 obtain ⟨j, hj, hmask2⟩ := mask3 J
 have HT := hid t
 have Hi := hid hi
 have Hj := hid hj
 have Hi4 : Hid (¬ (4 : Int) ≤ (i : Int)) := hid (by omega)
 have Hj4 : Hid (¬ (4 : Int) ≤ (j : Int)) := hid (by omega)
 obtain ⟨A, HAe⟩ : ∃ A, Hid (A = w.heap.size) := ⟨_, hid rfl⟩
 obtain ⟨w1, Hw1⟩ : ∃ W, Hid (W = w.alloc (.cells (opC 6 I J a b on sl) 31)) := ⟨_, hid rfl⟩
 have HA1 : Hid (Apart [] w w1) := hid (zM Hw1.out)
 have HBA : Hid (w1.heap[A]? = some (.cells (opC 6 I J a b on sl) 31 (0, 0))) := hid (zN HAe.out Hw1.out)
 have HT1 := hid (HT.out.kept0 HA1.out)
 have za0 : w1.cell? ⟨A, 0, none⟩ = some (.int .i64 6) := zK HBA.out
 have za1 : w1.cell? ⟨A, 1, none⟩ = some (.int .i64 I) := zK HBA.out
 have za2 : w1.cell? ⟨A, 2, none⟩ = some (.int .i64 J) := zK HBA.out
 clear t hj hi
 go_enter Tryz.func11, Tryz.ntmps11
 go_upto_region 1 with fail
 rw [← HAe.out, ← Hw1.out]
 clear Hw1 HAe
 go_upto_region 6 with fail
 clear za0 za1 za2
 have HTl := hid (lt_of_heap HT1.out.blk)
 have HTp : Hid (T ≠ p i) := hid (fun e => by
  obtain ⟨b0, hb0⟩ := HT1.out.bdP Hi.out
  rw [← e, HT1.out.blk] at hb0
  simp at hb0)
 have Hkd : Hid ((v i).kd = (v j).kd) := hid ((HT1.out.kd i Hi.out).trans (HT1.out.kd j Hj.out).symm)
 have HM : Hid (∀ W, Apart [] w1 W → Calls Tryz.prog 21 #[.pointer (some ⟨p i, 0, none⟩), .pointer (some ⟨p j, 0, none⟩)] W fun x w' => x = .returned (.int .i64 0) ∧ Ho w' (p i) (mgV (v i) (v j)) ∧ Apart [p i] W w') := hid (fun W aW => Merge_v ((HT1.out.kept0 aW).pv i Hi.out) ((HT1.out.kept0 aW).pv j Hj.out) ((HT1.out.rl i Hi.out).ok (HT1.out.iv i Hi.out).gt.1) ((HT1.out.rl j Hj.out).ok (HT1.out.iv j Hj.out).gt.1) Hkd.out)
 have hAd : Apart [p i] w1 w1.drew := (Apart.refl [p i] w1).drew
 have hA0 : Apart [] w1 w1.drew := (Apart.refl [] w1).drew
 refine wp_region_held_drew (S := fun W => Apart [p i] w1 W) (by kernel_rfl) hAd (fun hHeld => ?_)
 generalize w1.drew = wd at *
 clear hAd
 refine zt 0 34 ?_
 refine zt 1 35 ?_
 refine zt 2 36 ?_
 refine zt 3 37 ?_
 simp only [zA,zB,zC,zD,zF]
 refine tk 4 38 (.pointer (some ⟨T, 1 + i, none⟩)) rfl ?_ ?_
 ·intro W hSW; have h4 := Hi4.out; have h5 := Hj4.out; go_simp
 refine zu 5 39 rfl (fun W hSW => by have z : W.cell? ⟨T, 1 + i, none⟩ = some (.pointer (some ⟨p i, 0, none⟩)) := (hSW.cell HTl.out (by simpa using HTp.out)).trans (HT1.out.cp Hi.out); go_simp <;> rfl) ?_
 refine zt 6 40 ?_
 refine zt 7 41 ?_
 refine zt 8 42 ?_
 refine zt 9 43 ?_
 simp only [zA,zB,zC,zD,zF]
 refine tk 10 44 (.pointer (some ⟨T, 1 + j, none⟩)) rfl ?_ ?_
 ·intro W hSW; have h4 := Hi4.out; have h5 := Hj4.out; go_simp
 refine zu 11 45 rfl (fun W hSW => by have z : W.cell? ⟨T, 1 + j, none⟩ = some (.pointer (some ⟨p j, 0, none⟩)) := (hSW.cell HTl.out (by simpa using HTp.out)).trans (HT1.out.cp Hj.out); go_simp <;> rfl) ?_
 simp only [zA,zB,zC,zD,zF]
 refine zQ 12 fun KK hKK => ?_
 go_simp
 refine (HM.out wd hA0).mono ?_
 rintro _ wa ⟨rfl, hv, aX⟩
 have hHx : Apart [p i] w1 wa := (hA0.mono (by simp)).trans aX
 try dsimp only
 refine hKK.out _ _ hHx (fun hHeld => ?_)
 clear hKK KK
 try simp only [zA,zB,zC,zD,zF]
 refine zt 13 7 ?_
 simp only [zA,zB,zC,zD,zF]
 refine wpAnyH_done (by kernel_rfl) ?_ _
 have HA2 := hid hHeld
 have HV2 := hid hv
 clear hHeld hv aX hA0
 generalize wa = w2 at *
 have HX2 : Hid (∀ ty : Nat, ty ≠ 71 → ∀ q ∈ [p i], ∀ cur m, w1.heap[q]? ≠ some (.cells cur ty m)) := hid (fun ty hty q hq cur m e => by
  obtain ⟨b0, hb0⟩ := HT1.out.bdP Hi.out
  rw [List.mem_singleton.1 hq, hb0] at e
  simp only [Option.some.injEq, Obj.cells.injEq] at e
  exact hty e.2.1.symm)
 obtain ⟨si, hsi⟩ := HT1.out.rv i Hi.out
 obtain ⟨sj, hsj⟩ := HT1.out.rv j Hj.out
 have hnp : ∀ {q : Nat} {rr : Rv} {ss : Sl}, Dk w1 q rr ss → q ∉ [p i] := fun {q rr ss} hd hm => by
  obtain ⟨b0, hb0⟩ := HT1.out.bdP Hi.out
  have e := hd.dv.blk
  rw [List.mem_singleton.1 hm, hb0] at e
  simp at e
 have HDi := hid (hsi.other HA2.out (hnp hsi) (HX2.out _ (by decide)))
 have HDj := hid (hsj.other HA2.out (hnp hsj) (HX2.out _ (by decide)))
 have HTb2 : Hid (w2.heap[T]? = some (.cells (tbC k p r sH sL).toArray 49 (0, 0))) := hid ((HA2.out.block T HTl.out (by simpa using HTp.out)).trans HT1.out.blk)
 have HTl2 := hid (lt_of_heap HTb2.out)
 have HTri : Hid (w2.cell? ⟨T, 5 + i, none⟩ = some (.pointer (some ⟨r i, 0, none⟩))) := hid (dcell HTb2.out (tb_r _ _ _ _ _ Hi.out))
 have HTrj : Hid (w2.cell? ⟨T, 5 + j, none⟩ = some (.pointer (some ⟨r j, 0, none⟩))) := hid (dcell HTb2.out (tb_r _ _ _ _ _ Hj.out))
 clear hsi hsj hnp
 have Hli := hid (HT1.out.rl i Hi.out)
 have Hlj := hid (HT1.out.rl j Hj.out)
 have Hii := hid (HT1.out.iv i Hi.out)
 have Hij := hid (HT1.out.iv j Hj.out)
 obtain ⟨D, HDe⟩ : ∃ x, Hid (x = mgD (rvO (v i) (ts i)) (rvO (v j) (ts j)) (lateB (rvO (v i) (ts i)) (rvO (v j) (ts j)))) := ⟨_, hid rfl⟩
 have HD : Hid (∀ W, Apart [] w2 W → Calls Tryz.prog 22 #[.pointer (some ⟨r i, 0, none⟩), .pointer (some ⟨r j, 0, none⟩)] W fun x w' => ∃ X, x = .returned (.tuple #[.pointer (some ⟨X, 0, none⟩), .int .i64 0]) ∧ W.heap.size ≤ X ∧ Apart [] W w' ∧ ∃ s', Dk w' X D s') := hid (fun W aW => by
  rw [HDe.out]
  exact rmerge_ok (HDi.out.kept0 aW) (HDj.out.kept0 aW) (by rw [rvO_k, rvO_k]; exact Hkd.out) (by rw [rvO_ts]; exact Hli.out.to) (by rw [rvO_ts]; exact Hlj.out.to) (by rw [rvO_ts]; have := Hli.out.len; omega) (by rw [rvO_ts]; have := Hlj.out.len; omega))
 go_upto_region 7 with fail
 refine wp_region_held_drew (S := fun W => Apart [] w2 W) (by kernel_rfl) (Apart.refl [] w2).drew fun hHeld => ?_
 generalize w2.drew = wd at *
 refine zt 0 48 ?_
 refine zt 1 49 ?_
 refine zt 2 50 ?_
 refine zt 3 51 ?_
 simp only [zA,zB,zC,zD,zF]
 refine tk 4 52 (.pointer (some ⟨T, 5 + i, none⟩)) rfl ?_ ?_
 ·intro W hSW; have h4 := Hi4.out; have h5 := Hj4.out; go_simp
 refine zu 5 53 rfl (fun W hSW => by have z : W.cell? ⟨T, 5 + i, none⟩ = some (.pointer (some ⟨r i, 0, none⟩)) := (hSW.cell HTl2.out (by simp)).trans HTri.out; go_simp <;> rfl) ?_
 refine zt 6 54 ?_
 refine zt 7 55 ?_
 refine zt 8 56 ?_
 refine zt 9 57 ?_
 simp only [zA,zB,zC,zD,zF]
 refine tk 10 58 (.pointer (some ⟨T, 5 + j, none⟩)) rfl ?_ ?_
 ·intro W hSW; have h4 := Hi4.out; have h5 := Hj4.out; go_simp
 refine zu 11 59 rfl (fun W hSW => by have z : W.cell? ⟨T, 5 + j, none⟩ = some (.pointer (some ⟨r j, 0, none⟩)) := (hSW.cell HTl2.out (by simp)).trans HTrj.out; go_simp <;> rfl) ?_
 simp only [zA,zB,zC,zD,zF]
 refine zQ 12 fun KK hKK => ?_
 go_simp
 have hHd0 := hHeld
 refine (HD.out wd hHeld).mono ?_
 rintro _ wa ⟨X, rfl, hXw, aX, sX, kX⟩
 have hHx := hHeld.trans aX
 try dsimp only
 refine hKK.out _ _ hHx (fun hHeld => ?_)
 clear hKK KK
 try simp only [zA,zB,zC,zD,zF]
 refine zt 13 47 ?_
 refine zt 14 61 ?_
 refine zt 15 62 ?_
 refine zt 16 8 ?_
 refine zt 17 9 ?_
 simp only [zA,zB,zC,zD,zF]
 refine wpAnyH_done (by kernel_rfl) ?_ _
 have HA3 := hid hHeld
 have HXk := hid kX
 have HXw := hid hXw
 have HAw2 : Hid (Apart [] w2 wd) := hid hHd0
 clear hHeld kX aX hXw
 generalize wa = w3 at *
 have HXd := HXk
 clear HXk HD
 have HTb3 : Hid (w3.heap[T]? = some (.cells (tbC k p r sH sL).toArray 49 (0, 0))) := hid (keep0 HA3.out HTb2.out)
 have HV3 := hid (HV2.out.kept0 HA3.out)
 have z5 : w3.cell? ⟨T, 5 + i, none⟩ = some (.pointer (some ⟨r i, 0, none⟩)) := dcell HTb3.out (tb_r _ _ _ _ _ Hi.out)
 have f5 : w3.frozen? ⟨T, 5 + i, none⟩ = false := frozen_of_row _ _ _ _ _ HTb3.out
 have hi4 := Hi4.out
 go_upto_region 9 with fail
 clear z5 f5 hi4
 have HTb4 : Hid ((w3.setCell ⟨T, 5 + i, none⟩ (.pointer (some ⟨X, 0, none⟩))).heap[T]? = some (.cells (tbC k p (upd r i X) sH sL).toArray 49 (0, 0))) := hid (by
  rw [heap_setCell_same w3 T (5 + i) _ 49 _ HTb3.out, List.setIfInBounds_toArray]
  have := tbC_r k p r sH sL Hi.out X
  unfold ptV at this
  rw [this])
 have HA4 : Hid (Apart [T] w3 (w3.setCell ⟨T, 5 + i, none⟩ (.pointer (some ⟨X, 0, none⟩)))) := hid ((Apart.refl [T] w3).setCell (.inl (by simp)) _)
 generalize w3.setCell ⟨T, 5 + i, none⟩ (.pointer (some ⟨X, 0, none⟩)) = w4 at *
 have HXT : Hid (∀ ty : Nat, ty ≠ 49 → ∀ q ∈ [T], ∀ cur m, w3.heap[q]? ≠ some (.cells cur ty m)) := hid (fun ty hty q hq cur m e => by
  rw [List.mem_singleton.1 hq, HTb3.out] at e
  simp only [Option.some.injEq, Obj.cells.injEq] at e
  exact hty e.2.1.symm)
 have HV4 : Hid (Ho w4 (p i) (mgV (v i) (v j))) := hid (HV3.out.keptX HA4.out (fun hm => HTp.out (List.mem_singleton.1 hm).symm) (HXT.out _ (by decide)))
 have HD4 : Hid (Dk w4 X D sX) := hid (HXd.out.other HA4.out (fun hm => by
  have e := HXd.out.dv.blk
  rw [List.mem_singleton.1 hm, HTb3.out] at e
  simp at e) (HXT.out _ (by decide)))
 have HDr : Hid (D = rvO (mgV (v i) (v j)) (mergeT (ts i) (rvO (v i) (ts i)).c (ts j) (rvO (v j) (ts j)).c)) := hid (by rw [HDe.out]; exact rvO_mg Hli.out Hlj.out Hii.out Hij.out Hkd.out)
 have HA14 : Hid (Apart [p i, r i, T] w1 w4) := hid (((HA2.out.mono (by simp)).trans (HA3.out.mono (by simp))).trans (HA4.out.mono (by simp)))
 have HXn : Hid (w1.heap.size ≤ X) := hid (Nat.le_trans HA2.out.size (Nat.le_trans HAw2.out.size HXw.out))
 have HT4 := hid (HT1.out.next Hi.out (p' := p i) (r' := X) HA14.out (by rw [upd_self]; exact HTb4.out) (.inl rfl) (.inr HXn.out) HV4.out (by rw [← HDr.out]; exact HD4.out) (Hii.out.mg Hij.out Hkd.out) (Hli.out.mg Hlj.out Hii.out Hij.out Hkd.out) (by rw [mgV_kd]; exact HT1.out.kd i Hi.out))
 have zp : w4.cell? ⟨T, 1 + i, none⟩ = some (.pointer (some ⟨p i, 0, none⟩)) := by
  have := HT4.out.cp Hi.out
  rw [upd_same] at this
  exact this
 have hi4 := Hi4.out
 have HMn := hid (Merge_nil (w := w4) (p i))
 go_wp2_with (
  go_at_call 21
  refine HMn.out.mono ?_
  rintro _ w5 ⟨rfl, a5⟩
  have HA5 := hid a5
  clear a5)
 go_ret
 exact ⟨rfl, _, _, _, _, H, L, sH, sL, h, HT4.out.kept0 HA5.out, by omega, by omega, fun x hx => .inl hx, fun x hx => .inl hx⟩
end Go.Proofs.YtdbeeikjngnnnaaGreat.ty
