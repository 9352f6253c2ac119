import Derived.Test.YtdbeeikjngnnnaaGreatC31
import Derived.Test.YtdbeeikjngnnnaaGreatC34
import Derived.Test.YtdbeeikjngnnnaaGreatC38
namespace Go.Proofs.YtdbeeikjngnnnaaGreat.ty
open Go.ChangeShapes Go.WideShapes Go.ChangeAt Go.RowKit
set_option linter.unusedVariables false
set_option linter.unusedSimpArgs false
set_option maxRecDepth 100000
set_option maxHeartbeats 8000000
theorem gt_bl (a b : ByteArray) : (!Op.bytesLess b.toList a.toList && !b.toList == a.toList) = bl a b := by
 rw [bl_less]
 cases h : bl a b
 ·cases k : bl b a
  ·have := bl_total h k
   subst this
   simp
  ·rfl
 ·rw [bl_asym h]
  have : (b.toList == a.toList) = false := by
   rw [beq_eq_false_iff_ne]
   intro e
   rw [Lib.toList_data, Lib.toList_data] at e
   have := ba_inj e
   subst this
   rw [bl_irrefl] at h
   cases h
  rw [this]; rfl
def rvM (k : Nat) (u d c : List Int) (st ac : Int) (tx : ByteArray) : Rv := ⟨k, u, d, c, [], st, ac, tx⟩
theorem build63m (k : Nat) (st ac : Int) (tx : ByteArray) (W : World) : (Instr.build 63 #[(0, .int .i64 (k : Int)), (5, .int .i64 st), (6, .int .i64 ac), (7, .string tx)]).run Tryz.prog W = .ok (.agg (dCells (rvM k zr zr zr st ac tx) ⟨none, 0, 0⟩).toArray) W := by kernel_rfl
theorem ex_build63m {W : World} {eval : Operand → Value} {op : Oper} {k : Nat} {st ac : Int} {tx : ByteArray} (x y z u : Operand) (ho : op.op = .build 63 #[(0, x), (5, y), (6, z), (7, u)]) (hx : eval x = .int .i64 (k : Int)) (hy : eval y = .int .i64 st) (hz : eval z = .int .i64 ac) (hu : eval u = .string tx) : (execOp eval op).run Tryz.prog W = .ok (.value (.agg (dCells (rvM k zr zr zr st ac tx) ⟨none, 0, 0⟩).toArray)) W := by
 unfold execOp
 have e1 : (#[(0, x), (5, y), (6, z), (7, u)] : Array (Nat × Operand)).map (fun (i, x) => (i, eval x)) = #[(0, .int .i64 (k : Int)), (5, .int .i64 st), (6, .int .i64 ac), (7, .string tx)] := by simp [hx, hy, hz, hu]
 simp only [ho, e1, Sem.run_bind, build63m k st ac tx W, Sem.run_pure, Result.andThen_ok]
theorem Dk.newM (w : World) (k : Nat) (st ac : Int) (tx : ByteArray) : Dk (w.alloc (.cells (dCells (rvM k zr zr zr st ac tx) ⟨none, 0, 0⟩).toArray 63)) w.heap.size (rvM k zr zr zr st ac tx) ⟨none, 0, 0⟩ := ⟨⟨heap_alloc_new w _, Rd.nil _ _, rfl, fun _ => ⟨rfl, rfl⟩, rfl, rfl, rfl⟩, fun h => absurd h (Nat.lt_irrefl 0)⟩
theorem rmerge_ok {w : World} {P Q : Nat} {r o : Rv} {s so : Sl} (hP : Dk w P r s) (hQ : Dk w Q o so) (hk : r.k = o.k) (tP : To r.ts) (tQ : To o.ts) (hl : r.ts.length ≤ 4000) (hlo : o.ts.length ≤ 4000) : Calls Tryz.prog 22 #[.pointer (some ⟨P, 0, none⟩), .pointer (some ⟨Q, 0, none⟩)] w fun x w' => ∃ X, x = .returned (.tuple #[.pointer (some ⟨X, 0, none⟩), .int .i64 0]) ∧ w.heap.size ≤ X ∧ Apart [] w w' ∧ ∃ s', Dk w' X (mgD r o (lateB r o)) s' := by
 have HP := hid hP
 have HQ := hid hQ
 have HtP := hid tP
 have HtQ := hid tQ
 have Hl := hid hl
 have Hlo := hid hlo
 have HPl := hid (lt_of_heap hP.dv.blk)
 have HQl := hid (lt_of_heap hQ.dv.blk)
 obtain ⟨kk, Hkk⟩ : ∃ k, Hid (k = r.k) := ⟨_, hid rfl⟩
 obtain ⟨s0, Hs0⟩ : ∃ x, Hid (x = r.st) := ⟨_, hid rfl⟩
 obtain ⟨a0, Ha0⟩ : ∃ x, Hid (x = r.ac) := ⟨_, hid rfl⟩
 obtain ⟨t0, Ht0⟩ : ∃ x, Hid (x = r.tx) := ⟨_, hid rfl⟩
 obtain ⟨s1, Hs1⟩ : ∃ x, Hid (x = o.st) := ⟨_, hid rfl⟩
 obtain ⟨a1, Ha1⟩ : ∃ x, Hid (x = o.ac) := ⟨_, hid rfl⟩
 obtain ⟨t1, Ht1⟩ : ∃ x, Hid (x = o.tx) := ⟨_, hid rfl⟩
 have HZPk : Hid (w.cell? ⟨P, 0, none⟩ = some (.int .i64 (kk : Nat))) := hid (by rw [hP.dv.kind, Hkk.out])
 have HZQk : Hid (w.cell? ⟨Q, 0, none⟩ = some (.int .i64 (kk : Nat))) := hid (by rw [hQ.dv.kind, Hkk.out, hk])
 have HZPs : Hid (w.cell? ⟨P, 26, none⟩ = some (.int .i64 s0)) := hid (by rw [hP.dv.stamp, Hs0.out])
 have HZPa : Hid (w.cell? ⟨P, 27, none⟩ = some (.int .i64 a0)) := hid (by rw [hP.dv.actor, Ha0.out])
 have HZPt : Hid (w.cell? ⟨P, 28, none⟩ = some (.string t0)) := hid (by rw [hP.dv.text, Ht0.out])
 have HZQs : Hid (w.cell? ⟨Q, 26, none⟩ = some (.int .i64 s1)) := hid (by rw [hQ.dv.stamp, Hs1.out])
 have HZQa : Hid (w.cell? ⟨Q, 27, none⟩ = some (.int .i64 a1)) := hid (by rw [hQ.dv.actor, Ha1.out])
 have HZQt : Hid (w.cell? ⟨Q, 28, none⟩ = some (.string t1)) := hid (by rw [hQ.dv.text, Ht1.out])
 have Hlr : Hid (r.u.length = 8 ∧ r.d.length = 8 ∧ r.c.length = 8) := hid ⟨hP.dv.lu, hP.dv.ld, hP.dv.lc⟩
 have Hlq : Hid (o.u.length = 8 ∧ o.d.length = 8 ∧ o.c.length = 8) := hid ⟨hQ.dv.lu, hQ.dv.ld, hQ.dv.lc⟩
 clear hP hQ tP tQ hl hlo hk
 go_enter Tryz.func22, Tryz.ntmps22
 go_upto_region 1 with fail
 refine wp_region_held_drew (S := fun W => Apart [] w W) (by kernel_rfl) (Apart.refl [] w).drew fun hHeld => ?_
 generalize w.drew = wd at *
 refine zt 0 8 ?_
 refine zt 1 9 ?_
 refine zt 2 10 ?_
 refine zu 3 11 rfl (fun W hSW => by have z : W.cell? ⟨P, 0, none⟩ = some (.int .i64 (kk : Nat)) := (hSW.cell HPl.out (by simp)).trans HZPk.out; go_simp <;> rfl) ?_
 simp only [zA,zB,zC,zD,zF]
 refine zt 4 12 ?_
 refine zt 5 13 ?_
 refine zt 6 14 ?_
 refine zu 7 15 rfl (fun W hSW => by have z : W.cell? ⟨Q, 0, none⟩ = some (.int .i64 (kk : Nat)) := (hSW.cell HQl.out (by simp)).trans HZQk.out; go_simp <;> rfl) ?_
 simp only [zA,zB,zC,zD,zF]
 refine tk 8 16 (.bool false) rfl ?_ ?_
 ·intro W hSW; have hne : (((kk : Nat) : Int) != ((kk : Nat) : Int)) = false := (by simp); go_simp
 simp only [zA,zB,zC,zD,zF]
 refine wpAnyH_done (by kernel_rfl) ?_ _
 have HA1 := hid hHeld
 clear hHeld
 generalize wd = w2 at *
 go_upto_region 3 with fail
 have hAd : Apart [] w w2.drew := HA1.out.drew
 refine wp_region_held_drew (S := fun W => Apart [] w W) (by kernel_rfl) hAd (fun hHeld => ?_)
 generalize w2.drew = wd at *
 clear hAd
 refine zt 0 17 ?_
 refine zt 1 18 ?_
 refine zt 2 19 ?_
 refine zu 3 20 rfl (fun W hSW => by have z : W.cell? ⟨P, 0, none⟩ = some (.int .i64 (kk : Nat)) := (hSW.cell HPl.out (by simp)).trans HZPk.out; go_simp <;> rfl) ?_
 simp only [zA,zB,zC,zD,zF]
 refine zt 4 21 ?_
 refine zt 5 22 ?_
 refine zt 6 23 ?_
 refine zu 7 24 rfl (fun W hSW => by have z : W.cell? ⟨P, 26, none⟩ = some (.int .i64 s0) := (hSW.cell HPl.out (by simp)).trans HZPs.out; go_simp <;> rfl) ?_
 simp only [zA,zB,zC,zD,zF]
 refine zt 8 25 ?_
 refine zt 9 26 ?_
 refine zt 10 27 ?_
 refine zu 11 28 rfl (fun W hSW => by have z : W.cell? ⟨P, 27, none⟩ = some (.int .i64 a0) := (hSW.cell HPl.out (by simp)).trans HZPa.out; go_simp <;> rfl) ?_
 simp only [zA,zB,zC,zD,zF]
 refine zt 12 29 ?_
 refine zt 13 30 ?_
 refine zt 14 31 ?_
 refine zu 15 32 rfl (fun W hSW => by have z : W.cell? ⟨P, 28, none⟩ = some (.string t0) := (hSW.cell HPl.out (by simp)).trans HZPt.out; go_simp <;> rfl) ?_
 simp only [zA,zB,zC,zD,zF]
 refine tk 16 33 (.agg (dCells (rvM kk zr zr zr s0 a0 t0) ⟨none, 0, 0⟩).toArray) rfl ?_ ?_
 ·intro W hSW; exact ex_build63m _ _ _ _ rfl rfl rfl rfl rfl
 simp only [zA,zB,zC,zD,zF]
 refine zQ 17 fun KK hKK => ?_
 have HX0 := hid (Dk.newM wd kk s0 a0 t0)
 have HXw : Hid (w.heap.size ≤ wd.heap.size) := hid hHeld.size
 have hHx : Apart [] w (wd.alloc (.cells (dCells (rvM kk zr zr zr s0 a0 t0) ⟨none, 0, 0⟩).toArray 63)) := hHeld.alloc _
 go_simp
 refine hKK.out _ _ hHx (fun hHeld => ?_)
 clear hKK KK
 try simp only [zA,zB,zC,zD,zF]
 generalize wd.heap.size = X at *
 generalize wd.alloc (.cells (dCells (rvM kk zr zr zr s0 a0 t0) ⟨none, 0, 0⟩).toArray 63) = w3 at *
 refine zt 18 6 ?_
 simp only [zA,zB,zC,zD,zF]
 refine wpAnyH_done (by kernel_rfl) ?_ _
 have HA3 := hid hHeld
 clear hHeld
 go_upto_region 5 with fail
 obtain ⟨gu, Hgu⟩ : ∃ x, Hid (x = gr r.u o.u) := ⟨_, hid rfl⟩
 obtain ⟨gd, Hgd⟩ : ∃ x, Hid (x = gr r.d o.d) := ⟨_, hid rfl⟩
 obtain ⟨gc, Hgc⟩ : ∃ x, Hid (x = gr r.c o.c) := ⟨_, hid rfl⟩
 have HL8 : Hid (gu.length = 8 ∧ gd.length = 8 ∧ gc.length = 8) := hid ⟨by rw [Hgu.out]; exact gr_len Hlr.out.1 Hlq.out.1, by rw [Hgd.out]; exact gr_len Hlr.out.2.1 Hlq.out.2.1, by rw [Hgc.out]; exact gr_len Hlr.out.2.2 Hlq.out.2.2⟩
 go_loopw [7] (fun v7 wt => ∃ i : Nat, v7 = .int .i64 (i : Int) ∧ i ≤ 8 ∧ Hid (Apart [] w wt) ∧ Hid (Dk wt X (rvM kk (fil gu i) (fil gd i) (fil gc i) s0 a0 t0) ⟨none, 0, 0⟩)) (fun v7 _ => 8 - natV v7)
 case atStart => exact ⟨0, rfl, Nat.zero_le _, HA3, by rw [fil_zero, fil_zero, fil_zero]; exact HX0⟩
 case round =>
  clear HA3 HX0 HA1
  obtain ⟨i, rfl, hi8, HXu0, HXa⟩ := hrel
  generalize wr = wt at *
  by_cases hlt : i < 8
  ·have hlti : ((i : Nat) : Int) < 8 := by omega
   have Hi := hid hlt
   have Hi8 : Hid (¬ (8 : Int) ≤ (i : Int)) := hid (by omega)
   obtain ⟨pu, Hpu⟩ : ∃ x, Hid (x = r.u.getD i 0) := ⟨_, hid rfl⟩
   obtain ⟨qu, Hqu⟩ : ∃ x, Hid (x = o.u.getD i 0) := ⟨_, hid rfl⟩
   obtain ⟨pd, Hpd⟩ : ∃ x, Hid (x = r.d.getD i 0) := ⟨_, hid rfl⟩
   obtain ⟨qd, Hqd⟩ : ∃ x, Hid (x = o.d.getD i 0) := ⟨_, hid rfl⟩
   obtain ⟨pc, Hpc⟩ : ∃ x, Hid (x = r.c.getD i 0) := ⟨_, hid rfl⟩
   obtain ⟨qc, Hqc⟩ : ∃ x, Hid (x = o.c.getD i 0) := ⟨_, hid rfl⟩
   have HPu : Hid (w.cell? ⟨P, 1 + i, none⟩ = some (.int .i64 pu)) := hid (by rw [HP.out.dv.up Hi.out, Hpu.out])
   have HQu : Hid (w.cell? ⟨Q, 1 + i, none⟩ = some (.int .i64 qu)) := hid (by rw [HQ.out.dv.up Hi.out, Hqu.out])
   have HPd : Hid (w.cell? ⟨P, 9 + i, none⟩ = some (.int .i64 pd)) := hid (by rw [HP.out.dv.down Hi.out, Hpd.out])
   have HQd : Hid (w.cell? ⟨Q, 9 + i, none⟩ = some (.int .i64 qd)) := hid (by rw [HQ.out.dv.down Hi.out, Hqd.out])
   have HPc : Hid (w.cell? ⟨P, 17 + i, none⟩ = some (.int .i64 pc)) := hid (by rw [HP.out.dv.count Hi.out, Hpc.out])
   have HQc : Hid (w.cell? ⟨Q, 17 + i, none⟩ = some (.int .i64 qc)) := hid (by rw [HQ.out.dv.count Hi.out, Hqc.out])
   have Hmu : Hid ((fil gu i).set i (max pu qu) = fil gu (i + 1)) := hid (by rw [← fil_step HL8.out.1 Hi.out, Hgu.out, gr_at Hlr.out.1 Hlq.out.1 i Hi.out, Hpu.out, Hqu.out])
   have Hmd : Hid ((fil gd i).set i (max pd qd) = fil gd (i + 1)) := hid (by rw [← fil_step HL8.out.2.1 Hi.out, Hgd.out, gr_at Hlr.out.2.1 Hlq.out.2.1 i Hi.out, Hpd.out, Hqd.out])
   have Hmc : Hid ((fil gc i).set i (max pc qc) = fil gc (i + 1)) := hid (by rw [← fil_step HL8.out.2.2 Hi.out, Hgc.out, gr_at Hlr.out.2.2 Hlq.out.2.2 i Hi.out, Hpc.out, Hqc.out])
   clear Hpu Hqu Hpd Hqd Hpc Hqc hlt
   go_upto_region 7 with fail
   have hAd : Apart [] w wt.drew := (HXu0.out).drew
   have HDu := hid (HXa.out.kept0 ((Apart.refl [] wt).drew))
   refine wp_region_held_drew (S := fun W => Apart [] w W) (by kernel_rfl) hAd (fun hHeld => ?_)
   generalize wt.drew = wd at *
   clear hAd
   refine zt 0 39 ?_
   refine zt 1 40 ?_
   refine zt 2 41 ?_
   refine zt 3 42 ?_
   refine zt 4 43 ?_
   refine zt 5 44 ?_
   simp only [zA,zB,zC,zD,zF]
   refine tk 6 45 (.pointer (some ⟨P, 1 + i, none⟩)) rfl ?_ ?_
   ·intro W hSW; have h8 := Hi8.out; go_simp
   refine zu 7 46 rfl (fun W hSW => by have z : W.cell? ⟨P, 1 + i, none⟩ = some (.int .i64 pu) := (hSW.cell HPl.out (by simp)).trans HPu.out; go_simp <;> rfl) ?_
   refine zt 8 47 ?_
   refine zt 9 48 ?_
   refine zt 10 49 ?_
   refine zt 11 50 ?_
   simp only [zA,zB,zC,zD,zF]
   refine tk 12 51 (.pointer (some ⟨Q, 1 + i, none⟩)) rfl ?_ ?_
   ·intro W hSW; have h8 := Hi8.out; go_simp
   refine zu 13 52 rfl (fun W hSW => by have z : W.cell? ⟨Q, 1 + i, none⟩ = some (.int .i64 qu) := (hSW.cell HQl.out (by simp)).trans HQu.out; go_simp <;> rfl) ?_
   refine zt 14 53 ?_
   refine zt 15 54 ?_
   refine zt 16 55 ?_
   simp only [zA,zB,zC,zD,zF]
   refine tk 17 56 (.pointer (some ⟨X, 1 + i, none⟩)) rfl ?_ ?_
   ·intro W hSW; have h8 := Hi8.out; go_simp
   simp only [zA,zB,zC,zD,zF]
   refine zQ 18 fun KK hKK => ?_
   have f : wd.frozen? ⟨X, 1 + i, none⟩ = false := frozen_of_row _ _ _ _ _ HDu.out.dv.blk
   have z := HDu.out.dv.up Hi.out
   go_simp
   have HNu := hid (HDu.out.setUp Hi.out (max pu qu))
   have hHx : Apart [] w (wd.setCell ⟨X, 1 + i, none⟩ (.int .i64 (max pu qu))) := hHeld.setCell (.inr HXw.out) _
   refine hKK.out _ _ hHx (fun hHeld => ?_)
   clear hKK KK f z
   try simp only [zA,zB,zC,zD,zF]
   refine wpAnyH_done (by kernel_rfl) ?_ _
   generalize wd.setCell ⟨X, 1 + i, none⟩ (.int .i64 (max pu qu)) = wu at *
   have HXu1 := hid hHeld
   clear hHeld
   go_upto_region 8 with fail
   have HXa : Hid (Dk wu X (rvM kk (fil gu (i + 1)) (fil gd i) (fil gc i) s0 a0 t0) ⟨none, 0, 0⟩) := hid (by rw [← Hmu.out]; exact HNu.out)
   have HXd0 := HXu1
   have hAd : Apart [] w wu.drew := (HXd0.out).drew
   have HDd := hid (HXa.out.kept0 ((Apart.refl [] wu).drew))
   refine wp_region_held_drew (S := fun W => Apart [] w W) (by kernel_rfl) hAd (fun hHeld => ?_)
   generalize wu.drew = wd at *
   clear hAd
   refine zt 0 57 ?_
   refine zt 1 58 ?_
   refine zt 2 59 ?_
   refine zt 3 60 ?_
   refine zt 4 61 ?_
   refine zt 5 62 ?_
   simp only [zA,zB,zC,zD,zF]
   refine tk 6 63 (.pointer (some ⟨P, 9 + i, none⟩)) rfl ?_ ?_
   ·intro W hSW; have h8 := Hi8.out; go_simp
   refine zu 7 64 rfl (fun W hSW => by have z : W.cell? ⟨P, 9 + i, none⟩ = some (.int .i64 pd) := (hSW.cell HPl.out (by simp)).trans HPd.out; go_simp <;> rfl) ?_
   refine zt 8 65 ?_
   refine zt 9 66 ?_
   refine zt 10 67 ?_
   refine zt 11 68 ?_
   simp only [zA,zB,zC,zD,zF]
   refine tk 12 69 (.pointer (some ⟨Q, 9 + i, none⟩)) rfl ?_ ?_
   ·intro W hSW; have h8 := Hi8.out; go_simp
   refine zu 13 70 rfl (fun W hSW => by have z : W.cell? ⟨Q, 9 + i, none⟩ = some (.int .i64 qd) := (hSW.cell HQl.out (by simp)).trans HQd.out; go_simp <;> rfl) ?_
   refine zt 14 71 ?_
   refine zt 15 72 ?_
   refine zt 16 73 ?_
   simp only [zA,zB,zC,zD,zF]
   refine tk 17 74 (.pointer (some ⟨X, 9 + i, none⟩)) rfl ?_ ?_
   ·intro W hSW; have h8 := Hi8.out; go_simp
   simp only [zA,zB,zC,zD,zF]
   refine zQ 18 fun KK hKK => ?_
   have f : wd.frozen? ⟨X, 9 + i, none⟩ = false := frozen_of_row _ _ _ _ _ HDd.out.dv.blk
   have z := HDd.out.dv.down Hi.out
   go_simp
   have HNd := hid (HDd.out.setDown Hi.out (max pd qd))
   have hHx : Apart [] w (wd.setCell ⟨X, 9 + i, none⟩ (.int .i64 (max pd qd))) := hHeld.setCell (.inr HXw.out) _
   refine hKK.out _ _ hHx (fun hHeld => ?_)
   clear hKK KK f z
   try simp only [zA,zB,zC,zD,zF]
   refine wpAnyH_done (by kernel_rfl) ?_ _
   generalize wd.setCell ⟨X, 9 + i, none⟩ (.int .i64 (max pd qd)) = wv at *
   have HXd1 := hid hHeld
   clear hHeld
   go_upto_region 9 with fail
   have HXa : Hid (Dk wv X (rvM kk (fil gu (i + 1)) (fil gd (i + 1)) (fil gc i) s0 a0 t0) ⟨none, 0, 0⟩) := hid (by rw [← Hmd.out]; exact HNd.out)
   have HXc0 := HXd1
   have hAd : Apart [] w wv.drew := (HXc0.out).drew
   have HDc := hid (HXa.out.kept0 ((Apart.refl [] wv).drew))
   refine wp_region_held_drew (S := fun W => Apart [] w W) (by kernel_rfl) hAd (fun hHeld => ?_)
   generalize wv.drew = wd at *
   clear hAd
   refine zt 0 75 ?_
   refine zt 1 76 ?_
   refine zt 2 77 ?_
   refine zt 3 78 ?_
   refine zt 4 79 ?_
   refine zt 5 80 ?_
   simp only [zA,zB,zC,zD,zF]
   refine tk 6 81 (.pointer (some ⟨P, 17 + i, none⟩)) rfl ?_ ?_
   ·intro W hSW; have h8 := Hi8.out; go_simp
   refine zu 7 82 rfl (fun W hSW => by have z : W.cell? ⟨P, 17 + i, none⟩ = some (.int .i64 pc) := (hSW.cell HPl.out (by simp)).trans HPc.out; go_simp <;> rfl) ?_
   refine zt 8 83 ?_
   refine zt 9 84 ?_
   refine zt 10 85 ?_
   refine zt 11 86 ?_
   simp only [zA,zB,zC,zD,zF]
   refine tk 12 87 (.pointer (some ⟨Q, 17 + i, none⟩)) rfl ?_ ?_
   ·intro W hSW; have h8 := Hi8.out; go_simp
   refine zu 13 88 rfl (fun W hSW => by have z : W.cell? ⟨Q, 17 + i, none⟩ = some (.int .i64 qc) := (hSW.cell HQl.out (by simp)).trans HQc.out; go_simp <;> rfl) ?_
   refine zt 14 89 ?_
   refine zt 15 90 ?_
   refine zt 16 91 ?_
   simp only [zA,zB,zC,zD,zF]
   refine tk 17 92 (.pointer (some ⟨X, 17 + i, none⟩)) rfl ?_ ?_
   ·intro W hSW; have h8 := Hi8.out; go_simp
   simp only [zA,zB,zC,zD,zF]
   refine zQ 18 fun KK hKK => ?_
   have f : wd.frozen? ⟨X, 17 + i, none⟩ = false := frozen_of_row _ _ _ _ _ HDc.out.dv.blk
   have z := HDc.out.dv.count Hi.out
   go_simp
   have HNc := hid (HDc.out.setCount Hi.out (max pc qc))
   have hHx : Apart [] w (wd.setCell ⟨X, 17 + i, none⟩ (.int .i64 (max pc qc))) := hHeld.setCell (.inr HXw.out) _
   refine hKK.out _ _ hHx (fun hHeld => ?_)
   clear hKK KK f z
   try simp only [zA,zB,zC,zD,zF]
   refine wpAnyH_done (by kernel_rfl) ?_ _
   generalize wd.setCell ⟨X, 17 + i, none⟩ (.int .i64 (max pc qc)) = ww at *
   have HXc1 := hid hHeld
   clear hHeld
   have HXa : Hid (Dk ww X (rvM kk (fil gu (i + 1)) (fil gd (i + 1)) (fil gc (i + 1)) s0 a0 t0) ⟨none, 0, 0⟩) := hid (by rw [← Hmc.out]; exact HNc.out)
   go_wp2_with fail
   exact ⟨⟨i + 1, by go_num, by omega, HXc1, HXa⟩, by simp [natV]; omega⟩
  ·have hlti : ¬ ((i : Nat) : Int) < 8 := by omega
   obtain rfl : i = 8 := by omega
   rw [fil_end HL8.out.1, fil_end HL8.out.2.1, fil_end HL8.out.2.2] at HXa
   have HNx := hid (Nw.none96 w wt HXu0.out)
   have HS1 := hid (rstay_ok (wB := w) (xr := rvM kk gu gd gc s0 a0 t0) HXa.out HNx.out HXw.out HP.out HQ.out (fun t ht => (HtP.out.ok t ht).1) (by have := Hl.out; omega) (by have := Hlo.out; omega) (by show ([] : List Tg).length ≤ 9000; simp))
   go_upto_region 11 with (
    go_at_call 43
    refine HS1.out.mono ?_
    rintro _ w5 ⟨rfl, s5, k5, n5⟩
    have HX5 := hid k5
    have HN5 := hid n5
    clear k5 n5)
   obtain ⟨x5, Hx5⟩ : ∃ x, Hid (x = r.ts.foldl (stS o.c o.ts) []) := ⟨_, hid rfl⟩
   have HX5' : Hid (Dk w5 X { rvM kk gu gd gc s0 a0 t0 with ts := x5 } s5) := hid (by rw [Hx5.out]; exact HX5.out)
   have HN5' : Hid (Nw w w5 96 3 s5 (tgL x5)) := hid (by rw [Hx5.out]; exact HN5.out)
   have Hl5 : Hid (x5.length ≤ 9000) := hid (by
    rw [Hx5.out]
    have h1 := stS_len o.c o.ts r.ts []
    have h2 := Hl.out
    simp only [List.length_nil] at h1
    omega)
   have HS2 := hid (rstay_ok (wB := w) (xr := { rvM kk gu gd gc s0 a0 t0 with ts := x5 }) HX5'.out HN5'.out HXw.out HQ.out HP.out (fun t ht => (HtQ.out.ok t ht).1) (by have := Hlo.out; omega) (by have := Hl.out; omega) Hl5.out)
   clear HX5 HN5
   go_upto_region 12 with (
    go_at_call 43
    refine HS2.out.mono ?_
    rintro _ w7 ⟨rfl, s7, k7, n7⟩
    have HX7 := hid k7
    have HA7 := hid n7.ap
    clear k7 n7)
   have Hx7 : Hid (o.ts.foldl (stS r.c r.ts) x5 = mergeT r.ts r.c o.ts o.c) := hid (by rw [Hx5.out]; exact stS_two HtP.out HtQ.out r.c o.c)
   obtain ⟨x7, Hx7'⟩ : ∃ x, Hid (x = mergeT r.ts r.c o.ts o.c) := ⟨_, hid rfl⟩
   have HX8 : Hid (Dk w7 X ⟨kk, gu, gd, gc, x7, s0, a0, t0⟩ s7) := hid (by rw [Hx7'.out, ← Hx7.out]; exact HX7.out)
   clear HX7 HS1 HS2 HXa HNx HX5' HN5'
   obtain ⟨lt, Hlt0⟩ : ∃ b, Hid (b = lateB r o) := ⟨_, hid rfl⟩
   have HltE : Hid (lt = (decide (s0 < s1) || (s0 == s1 && (decide (a0 < a1) || (a0 == a1 && bl t0 t1))))) := hid (by rw [Hlt0.out, Hs0.out, Hs1.out, Ha0.out, Ha1.out, Ht0.out, Ht1.out]; rfl)
   go_cut [153] from 101 to 153 (fun s wx => s = .bool lt ∧ Apart [] w7 wx)
   case first =>
    clear HX8 HP HQ HtP HtQ
    by_cases hs : s0 < s1
    ·have Hs : Hid (s1 > s0) := hid hs
     have Hlt : Hid (lt = true) := hid (by rw [HltE.out, decide_eq_true hs]; rfl)
     clear hs
     have hAd : Apart [] w w7.drew := HA7.out.drew
     have hA7 := (Apart.refl [] w7).drew
     refine wp_region_held_drew (S := fun W => Apart [] w W ∧ Apart [] w7 W) (by kernel_rfl) ⟨hAd, hA7⟩ (fun hHeld => ?_)
     generalize w7.drew = wd at *
     clear hAd hA7
     refine zt 0 101 ?_
     refine zt 1 102 ?_
     refine zt 2 103 ?_
     refine zu 3 104 rfl (fun W hSW => by have z : W.cell? ⟨Q, 26, none⟩ = some (.int .i64 s1) := (hSW.1.cell HQl.out (by simp)).trans HZQs.out; go_simp <;> rfl) ?_
     simp only [zA,zB,zC,zD,zF]
     refine zt 4 105 ?_
     refine zt 5 106 ?_
     refine zt 6 107 ?_
     refine zu 7 108 rfl (fun W hSW => by have z : W.cell? ⟨P, 26, none⟩ = some (.int .i64 s0) := (hSW.1.cell HPl.out (by simp)).trans HZPs.out; go_simp <;> rfl) ?_
     simp only [zA,zB,zC,zD,zF]
     refine tk 8 109 (.bool true) rfl ?_ ?_
     ·intro W hSW; have h := Hs.out; go_simp
     refine zt 9 110 ?_
     simp only [zA,zB,zC,zD,zF]
     refine tu 10 111 rfl ?_
     simp only [zA,zB,zC,zD,zF]
     refine tu 11 112 rfl ?_
     simp only [zA,zB,zC,zD,zF]
     refine tu 12 113 rfl ?_
     simp only [zA,zB,zC,zD,zF]
     refine tu 13 114 rfl ?_
     simp only [zA,zB,zC,zD,zF]
     refine tu 14 115 rfl ?_
     simp only [zA,zB,zC,zD,zF]
     refine tu 15 116 rfl ?_
     simp only [zA,zB,zC,zD,zF]
     refine tu 16 117 rfl ?_
     simp only [zA,zB,zC,zD,zF]
     refine tu 17 118 rfl ?_
     simp only [zA,zB,zC,zD,zF]
     refine tu 18 119 rfl ?_
     simp only [zA,zB,zC,zD,zF]
     refine tu 19 120 rfl ?_
     simp only [zA,zB,zC,zD,zF]
     refine tu 20 121 rfl ?_
     simp only [zA,zB,zC,zD,zF]
     refine tu 21 122 rfl ?_
     simp only [zA,zB,zC,zD,zF]
     refine tu 22 123 rfl ?_
     simp only [zA,zB,zC,zD,zF]
     refine tu 23 124 rfl ?_
     simp only [zA,zB,zC,zD,zF]
     refine tu 24 125 rfl ?_
     simp only [zA,zB,zC,zD,zF]
     refine tu 25 126 rfl ?_
     simp only [zA,zB,zC,zD,zF]
     refine tu 26 127 rfl ?_
     simp only [zA,zB,zC,zD,zF]
     refine tu 27 128 rfl ?_
     simp only [zA,zB,zC,zD,zF]
     refine tu 28 129 rfl ?_
     simp only [zA,zB,zC,zD,zF]
     refine tu 29 130 rfl ?_
     simp only [zA,zB,zC,zD,zF]
     refine tu 30 131 rfl ?_
     simp only [zA,zB,zC,zD,zF]
     refine tu 31 132 rfl ?_
     simp only [zA,zB,zC,zD,zF]
     refine tu 32 133 rfl ?_
     simp only [zA,zB,zC,zD,zF]
     refine tu 33 134 rfl ?_
     simp only [zA,zB,zC,zD,zF]
     refine tu 34 135 rfl ?_
     simp only [zA,zB,zC,zD,zF]
     refine tu 35 136 rfl ?_
     simp only [zA,zB,zC,zD,zF]
     refine tu 36 137 rfl ?_
     simp only [zA,zB,zC,zD,zF]
     refine tu 37 138 rfl ?_
     simp only [zA,zB,zC,zD,zF]
     refine tu 38 139 rfl ?_
     simp only [zA,zB,zC,zD,zF]
     refine tu 39 140 rfl ?_
     simp only [zA,zB,zC,zD,zF]
     refine tu 40 141 rfl ?_
     simp only [zA,zB,zC,zD,zF]
     refine tu 41 142 rfl ?_
     simp only [zA,zB,zC,zD,zF]
     refine tu 42 143 rfl ?_
     simp only [zA,zB,zC,zD,zF]
     refine tu 43 144 rfl ?_
     simp only [zA,zB,zC,zD,zF]
     refine tu 44 145 rfl ?_
     simp only [zA,zB,zC,zD,zF]
     refine tu 45 146 rfl ?_
     simp only [zA,zB,zC,zD,zF]
     refine tu 46 147 rfl ?_
     simp only [zA,zB,zC,zD,zF]
     refine tu 47 148 rfl ?_
     simp only [zA,zB,zC,zD,zF]
     refine tu 48 149 rfl ?_
     simp only [zA,zB,zC,zD,zF]
     refine tu 49 150 rfl ?_
     simp only [zA,zB,zC,zD,zF]
     refine tu 50 151 rfl ?_
     simp only [zA,zB,zC,zD,zF]
     refine tu 51 152 rfl ?_
     refine zt 52 153 ?_
     simp only [zA,zB,zC,zD,zF]
     refine wpAnyH_done (by kernel_rfl) ?_ _
     have HAn := hid hHeld.2
     clear hHeld
     go_wp2_with fail
     go_meet
     exact ⟨by rw [Hlt.out], HAn.out⟩
    ·have Hs : Hid (¬ s1 > s0) := hid hs
     by_cases he : s0 = s1
     ·have He : Hid ((s1 == s0) = true) := hid (by rw [he]; simp)
      by_cases ha : a0 < a1
      ·have Ha : Hid (a1 > a0) := hid ha
       have Hlt : Hid (lt = true) := hid (by rw [HltE.out, he, decide_eq_true ha]; simp)
       clear hs he ha
       have hAd : Apart [] w w7.drew := HA7.out.drew
       have hA7 := (Apart.refl [] w7).drew
       refine wp_region_held_drew (S := fun W => Apart [] w W ∧ Apart [] w7 W) (by kernel_rfl) ⟨hAd, hA7⟩ (fun hHeld => ?_)
       generalize w7.drew = wd at *
       clear hAd hA7
       refine zt 0 101 ?_
       refine zt 1 102 ?_
       refine zt 2 103 ?_
       refine zu 3 104 rfl (fun W hSW => by have z : W.cell? ⟨Q, 26, none⟩ = some (.int .i64 s1) := (hSW.1.cell HQl.out (by simp)).trans HZQs.out; go_simp <;> rfl) ?_
       simp only [zA,zB,zC,zD,zF]
       refine zt 4 105 ?_
       refine zt 5 106 ?_
       refine zt 6 107 ?_
       refine zu 7 108 rfl (fun W hSW => by have z : W.cell? ⟨P, 26, none⟩ = some (.int .i64 s0) := (hSW.1.cell HPl.out (by simp)).trans HZPs.out; go_simp <;> rfl) ?_
       simp only [zA,zB,zC,zD,zF]
       refine tk 8 109 (.bool false) rfl ?_ ?_
       ·intro W hSW; have h := Hs.out; go_simp
       refine zt 9 110 ?_
       refine zt 10 111 ?_
       refine zt 11 112 ?_
       refine zt 12 113 ?_
       simp only [zA,zB,zC,zD,zF]
       refine zu 13 114 rfl (fun W hSW => by have z : W.cell? ⟨Q, 26, none⟩ = some (.int .i64 s1) := (hSW.1.cell HQl.out (by simp)).trans HZQs.out; go_simp <;> rfl) ?_
       refine zt 14 115 ?_
       refine zt 15 116 ?_
       refine zt 16 117 ?_
       refine zu 17 118 rfl (fun W hSW => by have z : W.cell? ⟨P, 26, none⟩ = some (.int .i64 s0) := (hSW.1.cell HPl.out (by simp)).trans HZPs.out; go_simp <;> rfl) ?_
       simp only [zA,zB,zC,zD,zF]
       refine tk 18 119 (.bool true) rfl ?_ ?_
       ·intro W hSW; have h := He.out; go_simp
       refine zt 19 120 ?_
       refine zt 20 121 ?_
       refine zt 21 122 ?_
       refine zt 22 123 ?_
       simp only [zA,zB,zC,zD,zF]
       refine zu 23 124 rfl (fun W hSW => by have z : W.cell? ⟨Q, 27, none⟩ = some (.int .i64 a1) := (hSW.1.cell HQl.out (by simp)).trans HZQa.out; go_simp <;> rfl) ?_
       refine zt 24 125 ?_
       refine zt 25 126 ?_
       refine zt 26 127 ?_
       refine zu 27 128 rfl (fun W hSW => by have z : W.cell? ⟨P, 27, none⟩ = some (.int .i64 a0) := (hSW.1.cell HPl.out (by simp)).trans HZPa.out; go_simp <;> rfl) ?_
       simp only [zA,zB,zC,zD,zF]
       refine tk 28 129 (.bool true) rfl ?_ ?_
       ·intro W hSW; have h := Ha.out; go_simp
       refine zt 29 130 ?_
       simp only [zA,zB,zC,zD,zF]
       refine tu 30 131 rfl ?_
       simp only [zA,zB,zC,zD,zF]
       refine tu 31 132 rfl ?_
       simp only [zA,zB,zC,zD,zF]
       refine tu 32 133 rfl ?_
       simp only [zA,zB,zC,zD,zF]
       refine tu 33 134 rfl ?_
       simp only [zA,zB,zC,zD,zF]
       refine tu 34 135 rfl ?_
       simp only [zA,zB,zC,zD,zF]
       refine tu 35 136 rfl ?_
       simp only [zA,zB,zC,zD,zF]
       refine tu 36 137 rfl ?_
       simp only [zA,zB,zC,zD,zF]
       refine tu 37 138 rfl ?_
       simp only [zA,zB,zC,zD,zF]
       refine tu 38 139 rfl ?_
       simp only [zA,zB,zC,zD,zF]
       refine tu 39 140 rfl ?_
       simp only [zA,zB,zC,zD,zF]
       refine tu 40 141 rfl ?_
       simp only [zA,zB,zC,zD,zF]
       refine tu 41 142 rfl ?_
       simp only [zA,zB,zC,zD,zF]
       refine tu 42 143 rfl ?_
       simp only [zA,zB,zC,zD,zF]
       refine tu 43 144 rfl ?_
       simp only [zA,zB,zC,zD,zF]
       refine tu 44 145 rfl ?_
       simp only [zA,zB,zC,zD,zF]
       refine tu 45 146 rfl ?_
       simp only [zA,zB,zC,zD,zF]
       refine tu 46 147 rfl ?_
       simp only [zA,zB,zC,zD,zF]
       refine tu 47 148 rfl ?_
       simp only [zA,zB,zC,zD,zF]
       refine tu 48 149 rfl ?_
       simp only [zA,zB,zC,zD,zF]
       refine tu 49 150 rfl ?_
       refine zt 50 151 ?_
       refine zt 51 152 ?_
       refine zt 52 153 ?_
       simp only [zA,zB,zC,zD,zF]
       refine wpAnyH_done (by kernel_rfl) ?_ _
       have HAn := hid hHeld.2
       clear hHeld
       go_wp2_with fail
       go_meet
       exact ⟨by rw [Hlt.out], HAn.out⟩
      ·have Ha : Hid (¬ a1 > a0) := hid ha
       by_cases hae : a0 = a1
       ·have Hae : Hid ((a1 == a0) = true) := hid (by rw [hae]; simp)
        have Hlt : Hid (lt = bl t0 t1) := hid (by rw [HltE.out, he, hae]; simp)
        clear hs he ha hae
        have hAd : Apart [] w w7.drew := HA7.out.drew
        have hA7 := (Apart.refl [] w7).drew
        refine wp_region_held_drew (S := fun W => Apart [] w W ∧ Apart [] w7 W) (by kernel_rfl) ⟨hAd, hA7⟩ (fun hHeld => ?_)
        generalize w7.drew = wd at *
        clear hAd hA7
        refine zt 0 101 ?_
        refine zt 1 102 ?_
        refine zt 2 103 ?_
        refine zu 3 104 rfl (fun W hSW => by have z : W.cell? ⟨Q, 26, none⟩ = some (.int .i64 s1) := (hSW.1.cell HQl.out (by simp)).trans HZQs.out; go_simp <;> rfl) ?_
        simp only [zA,zB,zC,zD,zF]
        refine zt 4 105 ?_
        refine zt 5 106 ?_
        refine zt 6 107 ?_
        refine zu 7 108 rfl (fun W hSW => by have z : W.cell? ⟨P, 26, none⟩ = some (.int .i64 s0) := (hSW.1.cell HPl.out (by simp)).trans HZPs.out; go_simp <;> rfl) ?_
        simp only [zA,zB,zC,zD,zF]
        refine tk 8 109 (.bool false) rfl ?_ ?_
        ·intro W hSW; have h := Hs.out; go_simp
        refine zt 9 110 ?_
        refine zt 10 111 ?_
        refine zt 11 112 ?_
        refine zt 12 113 ?_
        simp only [zA,zB,zC,zD,zF]
        refine zu 13 114 rfl (fun W hSW => by have z : W.cell? ⟨Q, 26, none⟩ = some (.int .i64 s1) := (hSW.1.cell HQl.out (by simp)).trans HZQs.out; go_simp <;> rfl) ?_
        refine zt 14 115 ?_
        refine zt 15 116 ?_
        refine zt 16 117 ?_
        refine zu 17 118 rfl (fun W hSW => by have z : W.cell? ⟨P, 26, none⟩ = some (.int .i64 s0) := (hSW.1.cell HPl.out (by simp)).trans HZPs.out; go_simp <;> rfl) ?_
        simp only [zA,zB,zC,zD,zF]
        refine tk 18 119 (.bool true) rfl ?_ ?_
        ·intro W hSW; have h := He.out; go_simp
        refine zt 19 120 ?_
        refine zt 20 121 ?_
        refine zt 21 122 ?_
        refine zt 22 123 ?_
        simp only [zA,zB,zC,zD,zF]
        refine zu 23 124 rfl (fun W hSW => by have z : W.cell? ⟨Q, 27, none⟩ = some (.int .i64 a1) := (hSW.1.cell HQl.out (by simp)).trans HZQa.out; go_simp <;> rfl) ?_
        refine zt 24 125 ?_
        refine zt 25 126 ?_
        refine zt 26 127 ?_
        refine zu 27 128 rfl (fun W hSW => by have z : W.cell? ⟨P, 27, none⟩ = some (.int .i64 a0) := (hSW.1.cell HPl.out (by simp)).trans HZPa.out; go_simp <;> rfl) ?_
        simp only [zA,zB,zC,zD,zF]
        refine tk 28 129 (.bool false) rfl ?_ ?_
        ·intro W hSW; have h := Ha.out; go_simp
        refine zt 29 130 ?_
        refine zt 30 131 ?_
        refine zt 31 132 ?_
        refine zt 32 133 ?_
        simp only [zA,zB,zC,zD,zF]
        refine zu 33 134 rfl (fun W hSW => by have z : W.cell? ⟨Q, 27, none⟩ = some (.int .i64 a1) := (hSW.1.cell HQl.out (by simp)).trans HZQa.out; go_simp <;> rfl) ?_
        refine zt 34 135 ?_
        refine zt 35 136 ?_
        refine zt 36 137 ?_
        refine zu 37 138 rfl (fun W hSW => by have z : W.cell? ⟨P, 27, none⟩ = some (.int .i64 a0) := (hSW.1.cell HPl.out (by simp)).trans HZPa.out; go_simp <;> rfl) ?_
        simp only [zA,zB,zC,zD,zF]
        refine tk 38 139 (.bool true) rfl ?_ ?_
        ·intro W hSW; have h := Hae.out; go_simp
        refine zt 39 140 ?_
        refine zt 40 141 ?_
        refine zt 41 142 ?_
        refine zt 42 143 ?_
        simp only [zA,zB,zC,zD,zF]
        refine zu 43 144 rfl (fun W hSW => by have z : W.cell? ⟨Q, 28, none⟩ = some (.string t1) := (hSW.1.cell HQl.out (by simp)).trans HZQt.out; go_simp <;> rfl) ?_
        refine zt 44 145 ?_
        refine zt 45 146 ?_
        refine zt 46 147 ?_
        refine zu 47 148 rfl (fun W hSW => by have z : W.cell? ⟨P, 28, none⟩ = some (.string t0) := (hSW.1.cell HPl.out (by simp)).trans HZPt.out; go_simp <;> rfl) ?_
        simp only [zA,zB,zC,zD,zF]
        refine tk 48 149 (.bool (bl t0 t1)) rfl ?_ ?_
        ·intro W hSW; have h := gt_bl t0 t1; go_simp
        refine zt 49 150 ?_
        refine zt 50 151 ?_
        refine zt 51 152 ?_
        refine zt 52 153 ?_
        simp only [zA,zB,zC,zD,zF]
        refine wpAnyH_done (by kernel_rfl) ?_ _
        have HAn := hid hHeld.2
        clear hHeld
        go_wp2_with fail
        go_meet
        exact ⟨by rw [Hlt.out], HAn.out⟩
       ·have Hae : Hid ((a1 == a0) = false) := hid (by simp only [beq_eq_false_iff_ne]; omega)
        have Hlt : Hid (lt = false) := hid (by rw [HltE.out, decide_eq_false hs, decide_eq_false ha, beq_eq_false_iff_ne.2 hae]; simp)
        clear hs he ha hae
        have hAd : Apart [] w w7.drew := HA7.out.drew
        have hA7 := (Apart.refl [] w7).drew
        refine wp_region_held_drew (S := fun W => Apart [] w W ∧ Apart [] w7 W) (by kernel_rfl) ⟨hAd, hA7⟩ (fun hHeld => ?_)
        generalize w7.drew = wd at *
        clear hAd hA7
        refine zt 0 101 ?_
        refine zt 1 102 ?_
        refine zt 2 103 ?_
        refine zu 3 104 rfl (fun W hSW => by have z : W.cell? ⟨Q, 26, none⟩ = some (.int .i64 s1) := (hSW.1.cell HQl.out (by simp)).trans HZQs.out; go_simp <;> rfl) ?_
        simp only [zA,zB,zC,zD,zF]
        refine zt 4 105 ?_
        refine zt 5 106 ?_
        refine zt 6 107 ?_
        refine zu 7 108 rfl (fun W hSW => by have z : W.cell? ⟨P, 26, none⟩ = some (.int .i64 s0) := (hSW.1.cell HPl.out (by simp)).trans HZPs.out; go_simp <;> rfl) ?_
        simp only [zA,zB,zC,zD,zF]
        refine tk 8 109 (.bool false) rfl ?_ ?_
        ·intro W hSW; have h := Hs.out; go_simp
        refine zt 9 110 ?_
        refine zt 10 111 ?_
        refine zt 11 112 ?_
        refine zt 12 113 ?_
        simp only [zA,zB,zC,zD,zF]
        refine zu 13 114 rfl (fun W hSW => by have z : W.cell? ⟨Q, 26, none⟩ = some (.int .i64 s1) := (hSW.1.cell HQl.out (by simp)).trans HZQs.out; go_simp <;> rfl) ?_
        refine zt 14 115 ?_
        refine zt 15 116 ?_
        refine zt 16 117 ?_
        refine zu 17 118 rfl (fun W hSW => by have z : W.cell? ⟨P, 26, none⟩ = some (.int .i64 s0) := (hSW.1.cell HPl.out (by simp)).trans HZPs.out; go_simp <;> rfl) ?_
        simp only [zA,zB,zC,zD,zF]
        refine tk 18 119 (.bool true) rfl ?_ ?_
        ·intro W hSW; have h := He.out; go_simp
        refine zt 19 120 ?_
        refine zt 20 121 ?_
        refine zt 21 122 ?_
        refine zt 22 123 ?_
        simp only [zA,zB,zC,zD,zF]
        refine zu 23 124 rfl (fun W hSW => by have z : W.cell? ⟨Q, 27, none⟩ = some (.int .i64 a1) := (hSW.1.cell HQl.out (by simp)).trans HZQa.out; go_simp <;> rfl) ?_
        refine zt 24 125 ?_
        refine zt 25 126 ?_
        refine zt 26 127 ?_
        refine zu 27 128 rfl (fun W hSW => by have z : W.cell? ⟨P, 27, none⟩ = some (.int .i64 a0) := (hSW.1.cell HPl.out (by simp)).trans HZPa.out; go_simp <;> rfl) ?_
        simp only [zA,zB,zC,zD,zF]
        refine tk 28 129 (.bool false) rfl ?_ ?_
        ·intro W hSW; have h := Ha.out; go_simp
        refine zt 29 130 ?_
        refine zt 30 131 ?_
        refine zt 31 132 ?_
        refine zt 32 133 ?_
        simp only [zA,zB,zC,zD,zF]
        refine zu 33 134 rfl (fun W hSW => by have z : W.cell? ⟨Q, 27, none⟩ = some (.int .i64 a1) := (hSW.1.cell HQl.out (by simp)).trans HZQa.out; go_simp <;> rfl) ?_
        refine zt 34 135 ?_
        refine zt 35 136 ?_
        refine zt 36 137 ?_
        refine zu 37 138 rfl (fun W hSW => by have z : W.cell? ⟨P, 27, none⟩ = some (.int .i64 a0) := (hSW.1.cell HPl.out (by simp)).trans HZPa.out; go_simp <;> rfl) ?_
        simp only [zA,zB,zC,zD,zF]
        refine tk 38 139 (.bool false) rfl ?_ ?_
        ·intro W hSW; have h := Hae.out; go_simp
        refine zt 39 140 ?_
        simp only [zA,zB,zC,zD,zF]
        refine tu 40 141 rfl ?_
        simp only [zA,zB,zC,zD,zF]
        refine tu 41 142 rfl ?_
        simp only [zA,zB,zC,zD,zF]
        refine tu 42 143 rfl ?_
        simp only [zA,zB,zC,zD,zF]
        refine tu 43 144 rfl ?_
        simp only [zA,zB,zC,zD,zF]
        refine tu 44 145 rfl ?_
        simp only [zA,zB,zC,zD,zF]
        refine tu 45 146 rfl ?_
        simp only [zA,zB,zC,zD,zF]
        refine tu 46 147 rfl ?_
        simp only [zA,zB,zC,zD,zF]
        refine tu 47 148 rfl ?_
        simp only [zA,zB,zC,zD,zF]
        refine tu 48 149 rfl ?_
        refine zt 49 150 ?_
        refine zt 50 151 ?_
        refine zt 51 152 ?_
        refine zt 52 153 ?_
        simp only [zA,zB,zC,zD,zF]
        refine wpAnyH_done (by kernel_rfl) ?_ _
        have HAn := hid hHeld.2
        clear hHeld
        go_wp2_with fail
        go_meet
        exact ⟨by rw [Hlt.out], HAn.out⟩
     ·have He : Hid ((s1 == s0) = false) := hid (by simp only [beq_eq_false_iff_ne]; omega)
      have Hlt : Hid (lt = false) := hid (by rw [HltE.out, decide_eq_false hs, beq_eq_false_iff_ne.2 he]; simp)
      clear hs he
      have hAd : Apart [] w w7.drew := HA7.out.drew
      have hA7 := (Apart.refl [] w7).drew
      refine wp_region_held_drew (S := fun W => Apart [] w W ∧ Apart [] w7 W) (by kernel_rfl) ⟨hAd, hA7⟩ (fun hHeld => ?_)
      generalize w7.drew = wd at *
      clear hAd hA7
      refine zt 0 101 ?_
      refine zt 1 102 ?_
      refine zt 2 103 ?_
      refine zu 3 104 rfl (fun W hSW => by have z : W.cell? ⟨Q, 26, none⟩ = some (.int .i64 s1) := (hSW.1.cell HQl.out (by simp)).trans HZQs.out; go_simp <;> rfl) ?_
      simp only [zA,zB,zC,zD,zF]
      refine zt 4 105 ?_
      refine zt 5 106 ?_
      refine zt 6 107 ?_
      refine zu 7 108 rfl (fun W hSW => by have z : W.cell? ⟨P, 26, none⟩ = some (.int .i64 s0) := (hSW.1.cell HPl.out (by simp)).trans HZPs.out; go_simp <;> rfl) ?_
      simp only [zA,zB,zC,zD,zF]
      refine tk 8 109 (.bool false) rfl ?_ ?_
      ·intro W hSW; have h := Hs.out; go_simp
      refine zt 9 110 ?_
      refine zt 10 111 ?_
      refine zt 11 112 ?_
      refine zt 12 113 ?_
      simp only [zA,zB,zC,zD,zF]
      refine zu 13 114 rfl (fun W hSW => by have z : W.cell? ⟨Q, 26, none⟩ = some (.int .i64 s1) := (hSW.1.cell HQl.out (by simp)).trans HZQs.out; go_simp <;> rfl) ?_
      refine zt 14 115 ?_
      refine zt 15 116 ?_
      refine zt 16 117 ?_
      refine zu 17 118 rfl (fun W hSW => by have z : W.cell? ⟨P, 26, none⟩ = some (.int .i64 s0) := (hSW.1.cell HPl.out (by simp)).trans HZPs.out; go_simp <;> rfl) ?_
      simp only [zA,zB,zC,zD,zF]
      refine tk 18 119 (.bool false) rfl ?_ ?_
      ·intro W hSW; have h := He.out; go_simp
      refine zt 19 120 ?_
      simp only [zA,zB,zC,zD,zF]
      refine tu 20 121 rfl ?_
      simp only [zA,zB,zC,zD,zF]
      refine tu 21 122 rfl ?_
      simp only [zA,zB,zC,zD,zF]
      refine tu 22 123 rfl ?_
      simp only [zA,zB,zC,zD,zF]
      refine tu 23 124 rfl ?_
      simp only [zA,zB,zC,zD,zF]
      refine tu 24 125 rfl ?_
      simp only [zA,zB,zC,zD,zF]
      refine tu 25 126 rfl ?_
      simp only [zA,zB,zC,zD,zF]
      refine tu 26 127 rfl ?_
      simp only [zA,zB,zC,zD,zF]
      refine tu 27 128 rfl ?_
      simp only [zA,zB,zC,zD,zF]
      refine tu 28 129 rfl ?_
      simp only [zA,zB,zC,zD,zF]
      refine tu 29 130 rfl ?_
      simp only [zA,zB,zC,zD,zF]
      refine tu 30 131 rfl ?_
      simp only [zA,zB,zC,zD,zF]
      refine tu 31 132 rfl ?_
      simp only [zA,zB,zC,zD,zF]
      refine tu 32 133 rfl ?_
      simp only [zA,zB,zC,zD,zF]
      refine tu 33 134 rfl ?_
      simp only [zA,zB,zC,zD,zF]
      refine tu 34 135 rfl ?_
      simp only [zA,zB,zC,zD,zF]
      refine tu 35 136 rfl ?_
      simp only [zA,zB,zC,zD,zF]
      refine tu 36 137 rfl ?_
      simp only [zA,zB,zC,zD,zF]
      refine tu 37 138 rfl ?_
      simp only [zA,zB,zC,zD,zF]
      refine tu 38 139 rfl ?_
      simp only [zA,zB,zC,zD,zF]
      refine tu 39 140 rfl ?_
      simp only [zA,zB,zC,zD,zF]
      refine tu 40 141 rfl ?_
      simp only [zA,zB,zC,zD,zF]
      refine tu 41 142 rfl ?_
      simp only [zA,zB,zC,zD,zF]
      refine tu 42 143 rfl ?_
      simp only [zA,zB,zC,zD,zF]
      refine tu 43 144 rfl ?_
      simp only [zA,zB,zC,zD,zF]
      refine tu 44 145 rfl ?_
      simp only [zA,zB,zC,zD,zF]
      refine tu 45 146 rfl ?_
      simp only [zA,zB,zC,zD,zF]
      refine tu 46 147 rfl ?_
      simp only [zA,zB,zC,zD,zF]
      refine tu 47 148 rfl ?_
      simp only [zA,zB,zC,zD,zF]
      refine tu 48 149 rfl ?_
      simp only [zA,zB,zC,zD,zF]
      refine tu 49 150 rfl ?_
      simp only [zA,zB,zC,zD,zF]
      refine tu 50 151 rfl ?_
      refine zt 51 152 ?_
      refine zt 52 153 ?_
      simp only [zA,zB,zC,zD,zF]
      refine wpAnyH_done (by kernel_rfl) ?_ _
      have HAn := hid hHeld.2
      clear hHeld
      go_wp2_with fail
      go_meet
      exact ⟨by rw [Hlt.out], HAn.out⟩
   obtain ⟨rfl, apc⟩ := hcut
   have HA8 : Hid (Apart [] w wc) := hid (HA7.out.trans apc)
   have HX9 := hid (HX8.out.kept0 apc)
   clear apc HX8 HA7
   generalize wc = w8 at *
   cases hlt2 : lt
   case false =>
    go_wp2_with fail
    go_ret2
    refine ⟨X, rfl, HXw.out, HA8.out, s7, ?_⟩
    have e : mgD r o (lateB r o) = ⟨kk, gu, gd, gc, x7, s0, a0, t0⟩ := by
     rw [← Hlt0.out, hlt2, Hkk.out, Hgu.out, Hgd.out, Hgc.out, Hx7'.out, Hs0.out, Ha0.out, Ht0.out]; rfl
    rw [e]
    exact HX9.out
   case true =>
    have HQ8 := hid (HQ.out.kept0 HA8.out)
    have HQX : Hid (Q ≠ X) := hid (by have := HQl.out; have := HXw.out; omega)
    have z26 : w8.cell? ⟨Q, 26, none⟩ = some (.int .i64 s1) := (HA8.out.cell HQl.out (by simp)).trans HZQs.out
    have f26 : w8.frozen? ⟨X, 26, none⟩ = false := frozen_of_row _ _ _ _ _ HX9.out.dv.blk
    have y26 := HX9.out.dv.stamp
    go_upto_region 14 with fail
    clear z26 f26 y26
    have HXb := hid (HX9.out.setRest (r' := ⟨kk, gu, gd, gc, x7, s1, a0, t0⟩) 1 (.int .i64 s1) rfl rfl rfl rfl rfl rfl)
    have HAb : Hid (Apart [] w (w8.setCell ⟨X, 26, none⟩ (.int .i64 s1))) := hid (HA8.out.setCell (.inr HXw.out) _)
    generalize w8.setCell ⟨X, 26, none⟩ (.int .i64 s1) = w9 at *
    have z27 : w9.cell? ⟨Q, 27, none⟩ = some (.int .i64 a1) := (HAb.out.cell HQl.out (by simp)).trans HZQa.out
    have f27 : w9.frozen? ⟨X, 27, none⟩ = false := frozen_of_row _ _ _ _ _ HXb.out.dv.blk
    have y27 := HXb.out.dv.actor
    go_upto_region 15 with fail
    clear z27 f27 y27
    have HXc := hid (HXb.out.setRest (r' := ⟨kk, gu, gd, gc, x7, s1, a1, t0⟩) 2 (.int .i64 a1) rfl rfl rfl rfl rfl rfl)
    have HAc : Hid (Apart [] w (w9.setCell ⟨X, 27, none⟩ (.int .i64 a1))) := hid (HAb.out.setCell (.inr HXw.out) _)
    generalize w9.setCell ⟨X, 27, none⟩ (.int .i64 a1) = w10 at *
    have z28 : w10.cell? ⟨Q, 28, none⟩ = some (.string t1) := (HAc.out.cell HQl.out (by simp)).trans HZQt.out
    have f28 : w10.frozen? ⟨X, 28, none⟩ = false := frozen_of_row _ _ _ _ _ HXc.out.dv.blk
    have y28 := HXc.out.dv.text
    have HXd := hid (HXc.out.setRest (r' := ⟨kk, gu, gd, gc, x7, s1, a1, t1⟩) 3 (.string t1) rfl rfl rfl rfl rfl rfl)
    have HAd : Hid (Apart [] w (w10.setCell ⟨X, 28, none⟩ (.string t1))) := hid (HAc.out.setCell (.inr HXw.out) _)
    go_wp2_with fail
    go_ret2
    refine ⟨X, rfl, HXw.out, HAd.out, s7, ?_⟩
    have e : mgD r o (lateB r o) = ⟨kk, gu, gd, gc, x7, s1, a1, t1⟩ := by
     rw [← Hlt0.out, hlt2, Hkk.out, Hgu.out, Hgd.out, Hgc.out, Hx7'.out, Hs1.out, Ha1.out, Ht1.out]; rfl
    rw [e]
    exact HXd.out
end Go.Proofs.YtdbeeikjngnnnaaGreat.ty
