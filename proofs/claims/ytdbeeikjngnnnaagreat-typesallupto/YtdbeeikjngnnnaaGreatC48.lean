import Derived.Test.YtdbeeikjngnnnaaGreatC43
namespace Go.Proofs.YtdbeeikjngnnnaaGreat.ty
open Go.ChangeShapes Go.WideShapes Go.ChangeAt Go.RowKit
set_option linter.unusedVariables false
set_option linter.unusedSimpArgs false
set_option maxRecDepth 100000
set_option maxHeartbeats 8000000
variable {wB w w' w2 : World} {T k : Nat} {p r : Nat → Nat} {v : Nat → Vl} {ts : Nat → List Tg} {H L : List Sl} {sH sL : Sl} {h : Nat → Prop}
theorem does5 (t : Tb wB w T k p r v ts H L sH sL h) {I J a b : Int} {on : Bool} {sl : Sl} {bs : List Nat} (gv : Gv w sl bs) (hB : ∀ P o, sl.p = some ⟨P, o, none⟩ ∧ bs ≠ [] → P < wB.heap.size) : Calls Tryz.prog 20 #[.pointer (some ⟨T, 0, none⟩), .agg (opC 5 I J a b on sl)] w fun x w' => StP wB T k H L x w' := by
 obtain ⟨i, hi, hmask⟩ := mask3 I
 have Hi := hid hi
 have Hi4 : Hid (¬ (4 : Int) ≤ (i : Int)) := hid (by omega)
 have HT := hid t
 have HGv := hid gv
 have HB := hid hB
 obtain ⟨n, Hn⟩ : ∃ n, Hid (n = sl.n) := ⟨_, hid rfl⟩
 have hn2 : n ≤ 2000000 := by rw [Hn.out, ← gv.len]; exact gv.le
 obtain ⟨A, HAe⟩ : ∃ A, Hid (A = w.heap.size) := ⟨_, hid rfl⟩
 obtain ⟨w1, Hw1⟩ : ∃ W, Hid (W = w.alloc (.cells (opC 5 I J a b on sl) 31)) := ⟨_, hid rfl⟩
 have HA1 : Hid (Apart [] w w1) := hid (zM Hw1.out)
 have HBA1 : Hid (w1.heap[A]? = some (.cells (opC 5 I J a b on sl) 31 (0, 0))) := hid (zN HAe.out Hw1.out)
 have HAw : Hid (w.heap.size ≤ A) := hid (by rw [HAe.out]; exact Nat.le_refl _)
 have HLe := hid (lent_ok (HGv.out.kept0 HA1.out))
 have za1 : w1.cell? ⟨A, 1, none⟩ = some (.int .i64 I) := zK HBA1.out
 have za6 : w1.cell? ⟨A, 6, none⟩ = some (.slice sl.p n sl.c) := by rw [cell_of_row _ _ _ _ _ _ HBA1.out, Hn.out]; rfl
 rw [← Hn.out] at HLe
 clear t gv hB hi
 go_enter Tryz.func20, Tryz.ntmps20
 go_upto_region 1 with fail
 rw [← HAe.out, ← Hw1.out]
 clear Hw1 HAe
 go_upto_region 3 with (
  go_at_call 35
  refine HLe.out.mono ?_
  rintro _ w2 ⟨s2, rfl, b2⟩
  have HS2 := hid b2
  clear b2)
 clear za1 za6 hmask
 have HA2 := hid (HA1.out.trans HS2.out.nw.ap)
 have HT2 := hid (HT.out.kept0 HA2.out)
 have HBA := hid (keep0 HS2.out.nw.ap HBA1.out)
 have Hq2 : Hid (Bq w2 (s2.preB n) bs) := hid (Bq.pre (k := n) ⟨HS2.out.nw.rd, HS2.out.len.symm, HS2.out.nw.ok⟩ (by rw [Hn.out]; exact HGv.out.len.symm))
 have hsc : n ≤ s2.c := by
  have h1 := HS2.out.nw.cap
  have h2 := HS2.out.len
  have h3 := HGv.out.len
  have h4 := Hn.out
  rw [List.length_append] at h2
  omega
 have za6 : w2.cell? ⟨A, 6, none⟩ = some (.slice sl.p n sl.c) := by rw [cell_of_row _ _ _ _ _ _ HBA.out, Hn.out]; rfl
 go_upto_region 5 with (refine wpL_val rfl (.slice (s2.preB n).p (s2.preB n).n (s2.preB n).c) (ex_preB s2 n _ _ rfl rfl rfl hsc) ?_)
 clear za6 hsc
 have za0 : w2.cell? ⟨A, 0, none⟩ = some (.int .i64 5) := zK HBA.out
 have HC0 : Hid (∀ W, Apart [] w2 W → Calls Tryz.prog 39 #[.pointer (some ⟨p i, 0, none⟩), .int .i64 a, .slice (s2.preB n).p (s2.preB n).n (s2.preB n).c] W fun x w' => x = .returned (.int .i64 (doV (v i) 5 a b on bs).1) ∧ Ho w' (p i) (doV (v i) 5 a b on bs).2 ∧ Apart [p i] W w') := hid (by
  have hi := Hi.out
  have t2 := HT2.out
  have q2 := Hq2.out
  have ok := (t2.rl i hi).ok (t2.iv i hi).gt.1
  intro W hW
  exact Write_v (t2.pv i hi |>.kept0 hW) ok a (q2.kept0 hW).rd q2.len q2.ok)
 obtain ⟨s0, hs0⟩ := HT2.out.rv i Hi.out
 have HD2 := hid hs0
 obtain ⟨b0, hb0⟩ := HT2.out.bdP Hi.out
 have HP2 := hid hb0
 have HTl := hid (lt_of_heap HT2.out.blk)
 have HAl := hid (lt_of_heap HBA.out)
 have HTp : Hid (T ∉ [p i]) := hid (fun hm => by
  have e := HP2.out
  rw [← List.mem_singleton.1 hm, HT2.out.blk] at e
  simp at e)
 have HAp : Hid (A ∉ [p i]) := hid (fun hm => by
  have e := HP2.out
  rw [← List.mem_singleton.1 hm, HBA.out] at e
  simp at e)
 have HTr : Hid (T ∉ [r i]) := hid (fun hm => by
  have e := HD2.out.dv.blk
  rw [← List.mem_singleton.1 hm, HT2.out.blk] at e
  simp at e)
 have HAr : Hid (A ∉ [r i]) := hid (fun hm => by
  have e := HD2.out.dv.blk
  rw [← List.mem_singleton.1 hm, HBA.out] at e
  simp at e)
 have HRp : Hid (r i ∉ [p i]) := hid (fun hm => by
  have e := HP2.out
  rw [← List.mem_singleton.1 hm, HD2.out.dv.blk] at e
  simp at e)
 obtain ⟨e1, He1⟩ : ∃ e1, Hid (e1 = (doV (v i) 5 a b on bs).1) := ⟨_, hid rfl⟩
 obtain ⟨v1, Hv1⟩ : ∃ v1, Hid (v1 = (doV (v i) 5 a b on bs).2) := ⟨_, hid rfl⟩
 have HC : Hid (∀ W, Apart [] w2 W → Calls Tryz.prog 39 #[.pointer (some ⟨p i, 0, none⟩), .int .i64 a, .slice (s2.preB n).p (s2.preB n).n (s2.preB n).c] W fun x w' => x = .returned (.int .i64 e1) ∧ Ho w' (p i) v1 ∧ Apart [p i] W w') := hid (by rw [He1.out, Hv1.out]; exact HC0.out)
 clear hs0 hb0 HC0
 go_upto_region 15 with fail
 have hAd : Apart [p i] w2 w2.drew := (Apart.refl [p i] w2).drew
 have HAd : Hid (Apart [] w2 w2.drew) := hid ((Apart.refl [] w2).drew)
 refine wp_region_held_drew (S := fun W => Apart [p i] w2 W) (by kernel_rfl) hAd (fun hHeld => ?_)
 generalize w2.drew = wd at *
 clear hAd
 refine zt 0 73 ?_
 refine zt 1 74 ?_
 refine zt 2 75 ?_
 refine zt 3 76 ?_
 simp only [zA,zB,zC,zD,zF]
 refine tk 4 77 (.pointer (some ⟨T, 1 + i, none⟩)) rfl ?_ ?_
 ·intro W hSW; have h4 : ¬ (4 : Int) ≤ (i : Int) := (by have := Hi.out; omega); go_simp
 refine zu 5 78 rfl (fun W hSW => by have z : W.cell? ⟨T, 1 + i, none⟩ = some (.pointer (some ⟨p i, 0, none⟩)) := (hSW.cell HTl.out HTp.out).trans (HT2.out.cp Hi.out); go_simp <;> rfl) ?_
 refine zt 6 79 ?_
 refine zu 7 80 rfl (fun W hSW => by have z : W.cell? ⟨A, 3, none⟩ = some (.int .i64 a) := (hSW.cell HAl.out HAp.out).trans (zK HBA.out); go_simp <;> rfl) ?_
 refine zt 8 81 ?_
 simp only [zA,zB,zC,zD,zF]
 refine zQ 9 fun KK hKK => ?_
 have hC := HC.out wd HAd.out
 go_simp
 refine hC.mono ?_
 rintro _ w4 ⟨rfl, hv4, a4⟩
 have HV4 := hid hv4
 have hHx := hHeld.trans a4
 clear hv4 a4 hC
 try dsimp only
 refine hKK.out _ _ hHx (fun hHeld => ?_)
 clear hKK KK
 try simp only [zA,zB,zC,zD,zF]
 refine zt 10 8 ?_
 simp only [zA,zB,zC,zD,zF]
 refine wpAnyH_done (by kernel_rfl) ?_ _
 have HA4 : Hid (Apart [p i] w2 w4) := hid hHeld
 clear hHeld hHx
 have HTl4 : Hid (T < w4.heap.size) := hid (Nat.lt_of_lt_of_le HTl.out HA4.out.size)
 have HAl4 : Hid (A < w4.heap.size) := hid (Nat.lt_of_lt_of_le HAl.out HA4.out.size)
 have HTc4 : Hid (w4.cell? ⟨T, 5 + i, none⟩ = some (.pointer (some ⟨r i, 0, none⟩))) := hid ((HA4.out.cell HTl.out HTp.out).trans (HT2.out.cr Hi.out))
 have HBA4 : Hid (w4.heap[A]? = some (.cells (opC 5 I J a b on sl) 31 (0, 0))) := hid ((HA4.out.block A HAl.out HAp.out).trans HBA.out)
 have HD4 : Hid (Dk w4 (r i) (rvO (v i) (ts i)) s0) := hid (HD2.out.other HA4.out HRp.out (fun q hq cur m e => by
  rw [List.mem_singleton.1 hq, HP2.out] at e
  simp at e))
 have HBi : Hid (wB.heap.size ≤ p i ∧ wB.heap.size ≤ r i) := hid ⟨HT2.out.pn i Hi.out, HT2.out.rn i Hi.out⟩
 have HG4 : Hid (Gv w4 sl bs) := hid ((HGv.out.kept0 HA2.out).keptX HA4.out (fun P o e hm => by
  have h1 := HB.out P o e
  have h2 := HBi.out.1
  rw [← List.mem_singleton.1 hm] at h2
  omega))
 have HCr : Hid (∀ W, Apart [] w4 W → Calls Tryz.prog 40 #[.pointer (some ⟨r i, 0, none⟩), .agg (actC 5 a b on sl)] W fun x w' => x = .returned (.int .i64 e1) ∧ Apart [r i] W w' ∧ ∃ ts' s', Dk w' (r i) (rvO v1 ts') s' ∧ Rl v1 ts') := hid (by
  intro W hW
  rw [He1.out, Hv1.out]
  exact rdo_ok (HD4.out.kept0 hW) (HT2.out.rl i Hi.out) (HT2.out.iv i Hi.out) (HG4.out.kept0 hW).bq (fun P o e hm => by
   have h1 := HB.out P o e
   have h2 := HBi.out.2
   rw [← hm] at h2
   omega) 5 (by decide) (by decide) a b on)
 go_upto_region 16 with fail
 have hAd : Apart [r i] w4 w4.drew := (Apart.refl [r i] w4).drew
 have HAd4 : Hid (Apart [] w4 w4.drew) := hid ((Apart.refl [] w4).drew)
 refine wp_region_held_drew (S := fun W => Apart [r i] w4 W) (by kernel_rfl) hAd (fun hHeld => ?_)
 generalize w4.drew = wd4 at *
 clear hAd
 refine zt 0 83 ?_
 refine zt 1 84 ?_
 refine zt 2 85 ?_
 refine zt 3 86 ?_
 simp only [zA,zB,zC,zD,zF]
 refine tk 4 87 (.pointer (some ⟨T, 5 + i, none⟩)) rfl ?_ ?_
 ·intro W hSW; have h4 : ¬ (4 : Int) ≤ (i : Int) := (by have := Hi.out; omega); go_simp
 refine zu 5 88 rfl (fun W hSW => by have z : W.cell? ⟨T, 5 + i, none⟩ = some (.pointer (some ⟨r i, 0, none⟩)) := (hSW.cell HTl4.out HTr.out).trans HTc4.out; go_simp <;> rfl) ?_
 refine zt 6 89 ?_
 refine zu 7 90 rfl (fun W hSW => by have z : W.cell? ⟨A, 0, none⟩ = some (.int .i64 5) := (hSW.cell HAl4.out HAr.out).trans (zK HBA4.out); go_simp <;> rfl) ?_
 refine zt 8 91 ?_
 refine zu 9 92 rfl (fun W hSW => by have z : W.cell? ⟨A, 3, none⟩ = some (.int .i64 a) := (hSW.cell HAl4.out HAr.out).trans (zK HBA4.out); go_simp <;> rfl) ?_
 refine zt 10 93 ?_
 refine zu 11 94 rfl (fun W hSW => by have z : W.cell? ⟨A, 4, none⟩ = some (.int .i64 b) := (hSW.cell HAl4.out HAr.out).trans (zK HBA4.out); go_simp <;> rfl) ?_
 refine zt 12 95 ?_
 refine zu 13 96 rfl (fun W hSW => by have z : W.cell? ⟨A, 5, none⟩ = some (.bool on) := (hSW.cell HAl4.out HAr.out).trans (zK HBA4.out); go_simp <;> rfl) ?_
 refine zt 14 97 ?_
 refine zu 15 98 rfl (fun W hSW => by have z : W.cell? ⟨A, 6, none⟩ = some (.slice sl.p sl.n sl.c) := (hSW.cell HAl4.out HAr.out).trans (zK HBA4.out); go_simp <;> rfl) ?_
 simp only [zA,zB,zC,zD,zF]
 refine tk 16 99 (.agg (actC 5 a b on sl)) rfl ?_ ?_
 ·intro W hSW; exact ex_build81 _ _ _ _ _ rfl rfl rfl rfl rfl rfl
 simp only [zA,zB,zC,zD,zF]
 refine zQ 17 fun KK hKK => ?_
 have hC := HCr.out wd4 HAd4.out
 go_simp
 refine hC.mono ?_
 rintro _ w5 ⟨rfl, a5, ts5, s5, k5, l5⟩
 have HD5 := hid k5
 have HL5 := hid l5
 have hHx := hHeld.trans a5
 clear k5 l5 a5 hC
 try dsimp only
 refine hKK.out _ _ hHx (fun hHeld => ?_)
 clear hKK KK
 try simp only [zA,zB,zC,zD,zF]
 refine zt 18 9 ?_
 simp only [zA,zB,zC,zD,zF]
 refine wpAnyH_done (by kernel_rfl) ?_ _
 have HA5 : Hid (Apart [r i] w4 w5) := hid hHeld
 clear hHeld hHx
 -- the table, behind both
 have HV5 : Hid (Ho w5 (p i) v1) := hid (HV4.out.keptX HA5.out (fun hm => HRp.out (by rw [← List.mem_singleton.1 hm]; simp)) (fun q hq cur m e => by
  rw [List.mem_singleton.1 hq, HD4.out.dv.blk] at e
  simp at e))
 have HTb5 : Hid (w5.heap[T]? = some (.cells (tbC k p r sH sL).toArray 49 (0, 0))) := hid ((HA5.out.block T HTl4.out HTr.out).trans ((HA4.out.block T HTl.out HTp.out).trans HT2.out.blk))
 have HA25 : Hid (Apart [p i, r i, T] w2 w5) := hid ((HA4.out.mono (by simp)).trans (HA5.out.mono (by simp)))
 have Hiv : Hid (Iv v1 ∧ v1.kd = k) := hid (by
  have iv := HT2.out.iv i Hi.out
  have kd := HT2.out.kd i Hi.out
  rw [Hv1.out, ← kd]
  exact iv.write a bs)
 have HT5 : Hid (Tb wB w5 T k p r (upd v i v1) (upd ts i ts5) H L sH sL h) := hid (by
  have e := HT2.out.next Hi.out (p' := p i) (r' := r i) HA25.out (by rw [upd_self, upd_self]; exact HTb5.out) (.inl rfl) (.inl rfl) HV5.out HD5.out Hiv.out.1 HL5.out Hiv.out.2
  rw [upd_self, upd_self] at e
  exact e)
 have HS5 : Hid (Bf wB w5 s2 (bs ++ [7, 8])) := hid (by
  have hne : ∀ {X : Nat}, (∃ cur t m, t ≠ 5 ∧ w2.heap[X]? = some (.cells cur t m)) → ∀ q, s2.v.ownBlock = some q → q ≠ X := fun {X} hx q hq e => by
   obtain ⟨cur, e2⟩ := own_typ HS2.out.nw.own hq
   obtain ⟨c2, t2, m2, h5, e3⟩ := hx
   rw [e, e3] at e2
   simp only [Option.some.injEq, Obj.cells.injEq] at e2
   exact h5 e2.2.1
  refine ⟨⟨own_apart (own_apart HS2.out.nw.own HA4.out (fun q hq hm => hne ⟨_, _, _, (by decide), HP2.out⟩ q hq (List.mem_singleton.1 hm))) HA5.out (fun q hq hm => hne ⟨_, _, _, (by decide), HD2.out.dv.blk⟩ q hq (List.mem_singleton.1 hm)), fun q hq => ?_, HT5.out.ap⟩, HS2.out.len⟩
  have h1 := HS2.out.nw.new q hq
  have h2 := HT.out.ap.size
  have h3 := HA1.out.size
  omega)
 have HG5 : Hid (Gv w5 sl bs) := hid (HG4.out.keptX HA5.out (fun P o e hm => by
  have h1 := HB.out P o e
  have h2 := HBi.out.2
  rw [← List.mem_singleton.1 hm] at h2
  omega))
 have HBk := hid (back_ok HS5.out HG5.out)
 have HBA5 : Hid (w5.heap[A]? = some (.cells (opC 5 I J a b on sl) 31 (0, 0))) := hid ((HA5.out.block A HAl4.out HAr.out).trans HBA4.out)
 have za6 : w5.cell? ⟨A, 6, none⟩ = some (.slice sl.p sl.n sl.c) := zK HBA5.out
 have heq : (e1 == e1) = true := by simp
 have HFin : Hid (∀ w6, Apart s2.v.ownBlock.toList w5 w6 → StP wB T k H L (.returned (.bool true)) w6) := hid (by
  intro w6 a6
  refine ⟨rfl, p, r, _, _, H, L, sH, sL, h, HT5.out.kept a6 (fun P hP => ?_), by omega, by omega, fun x hx => .inl hx, fun x hx => .inl hx⟩
  have hP' : s2.v.ownBlock = some P := by simpa using hP
  obtain ⟨cur, e⟩ := own_typ HS5.out.nw.own hP'
  have hnew := HS2.out.nw.new P hP'
  have h3 := HA1.out.size
  refine ⟨⟨⟨cur, _, .inl e⟩, fun hh => ?_, fun hh => ?_⟩, HS5.out.nw.new P hP'⟩
  ·obtain ⟨-, ⟨c, m, e2⟩, -⟩ := HT.out.hh P hh
   have : P < w.heap.size := e2.elim lt_of_heapM lt_of_heapM
   omega
  ·obtain ⟨c, e2⟩ := own_typ HT.out.nh.own hh
   have := lt_of_heap e2
   omega)
 clear HTb5 HA25 Hiv HT5 HS5 HG5 HBA5 HV5 HD5 HL5 HD4 HG4 HCr HC HTc4 HBA4
 go_wp2_with (
  go_at_call 41
  refine HBk.out.mono ?_
  rintro _ w6 ⟨rfl, a6⟩
  have HA6 := hid a6
  clear a6)
 go_ret
 exact HFin.out _ HA6.out
variable {wB w w' w2 : World} {T k : Nat} {p r : Nat → Nat} {v : Nat → Vl} {ts : Nat → List Tg} {H L : List Sl} {sH sL : Sl} {h : Nat → Prop}
theorem stepLow (t : Tb wB w T k p r v ts H L sH sL h) {I J a b : Int} {on : Bool} {sl : Sl} {K : Int} (hK : K < 1) : Calls Tryz.prog 11 #[.pointer (some ⟨T, 0, none⟩), .agg (opC K I J a b on sl)] w fun x w' => StP wB T k H L x w' := by
 obtain ⟨i, hi, hmask⟩ := mask3 I
 obtain ⟨j, hj, hmask2⟩ := mask3 J
 have HT := hid t
 have b6 : (K == 6) = false := by simp only [beq_eq_false_iff_ne]; omega
 have b7 : (K == 7) = false := by simp only [beq_eq_false_iff_ne]; omega
 have b8 : (K == 8) = false := by simp only [beq_eq_false_iff_ne]; omega
 have b9 : (K == 9) = false := by simp only [beq_eq_false_iff_ne]; omega
 have b10 : (K == 10) = false := by simp only [beq_eq_false_iff_ne]; omega
 obtain ⟨A, HAe⟩ : ∃ A, Hid (A = w.heap.size) := ⟨_, hid rfl⟩
 obtain ⟨w1, Hw1⟩ : ∃ W, Hid (W = w.alloc (.cells (opC K I J a b on sl) 31)) := ⟨_, hid rfl⟩
 have HA1 : Hid (Apart [] w w1) := hid (zM Hw1.out)
 have HBA : Hid (w1.heap[A]? = some (.cells (opC K I J a b on sl) 31 (0, 0))) := hid (zN HAe.out Hw1.out)
 have HT1 := hid (HT.out.kept0 HA1.out)
 have za0 : w1.cell? ⟨A, 0, none⟩ = some (.int .i64 K) := zK HBA.out
 have za1 : w1.cell? ⟨A, 1, none⟩ = some (.int .i64 I) := zK HBA.out
 have za2 : w1.cell? ⟨A, 2, none⟩ = some (.int .i64 J) := zK HBA.out
 clear t hj
 go_enter Tryz.func11, Tryz.ntmps11
 go_upto_region 1 with fail
 rw [← HAe.out, ← Hw1.out]
 clear Hw1 HAe
 have HF : Hid (StP wB T k H L (.returned (.bool true)) w1) := hid ⟨rfl, p, r, v, ts, H, L, sH, sL, h, HT1.out, by omega, by omega, fun x hx => .inl hx, fun x hx => .inl hx⟩
 clear hi
 go_wp2_with fail
 go_ret
 exact HF.out
structure Bg (wB w : World) (T k n : Nat) (p r : Nat → Nat) : Prop where
 blk : w.heap[T]? = some (.cells (tbG k (fun i => if i < n then ptV (p i) else .pointer none) (fun i => if i < n then ptV (r i) else .pointer none) ⟨none, 0, 0⟩ ⟨none, 0, 0⟩).toArray 49 (0, 0))
 tn : wB.heap.size ≤ T
 pn : ∀ i, i < n → wB.heap.size ≤ p i ∧ p i < w.heap.size
 rn : ∀ i, i < n → wB.heap.size ≤ r i ∧ r i < w.heap.size
 pd : ∀ i j, i < n → j < n → i ≠ j → p i ≠ p j
 rd : ∀ i j, i < n → j < n → i ≠ j → r i ≠ r j
 pv : ∀ i, i < n → Ho w (p i) (new0 k)
 rv : ∀ i, i < n → Dk w (r i) (rv0 k) ⟨none, 0, 0⟩
 ap : Apart [] wB w
theorem dk0 {w : World} {O k : Nat} (h : Dv w O (rv0 k) ⟨none, 0, 0⟩) : Dk w O (rv0 k) ⟨none, 0, 0⟩ := ⟨h, fun h0 => by simp [rv0] at h0⟩
theorem Bg.kept0 {wB w w' : World} {T k n : Nat} {p r : Nat → Nat} (b : Bg wB w T k n p r) (a : Apart [] w w') : Bg wB w' T k n p r := ⟨keep0 a b.blk, b.tn, fun i hi => ⟨(b.pn i hi).1, Nat.lt_of_lt_of_le (b.pn i hi).2 a.size⟩, fun i hi => ⟨(b.rn i hi).1, Nat.lt_of_lt_of_le (b.rn i hi).2 a.size⟩, b.pd, b.rd, fun i hi => (b.pv i hi).kept0 a, fun i hi => (b.rv i hi).kept0 a, b.ap.trans a⟩
theorem Bg.start (wB : World) (k : Nat) : Bg wB (wB.alloc (.cells (tbG k (fun _ => .pointer none) (fun _ => .pointer none) ⟨none, 0, 0⟩ ⟨none, 0, 0⟩).toArray 49)) wB.heap.size k 0 (fun _ => 0) (fun _ => 0) := ⟨heap_alloc_new wB _, Nat.le_refl _, fun i hi => by omega, fun i hi => by omega, fun i j hi => by omega, fun i j hi => by omega, fun i hi => by omega, fun i hi => by omega, (Apart.refl [] wB).alloc _⟩
theorem tbG_set (k : Nat) (P R : Nat → Value) (sH sL : Sl) {n : Nat} (hn : n < 4) (a b : Value) : ((tbG k P R sH sL).set (1 + n) a).set (5 + n) b = tbG k (fun i => if i = n then a else P i) (fun i => if i = n then b else R i) sH sL := by
 obtain rfl | rfl | rfl | rfl : n = 0 ∨ n = 1 ∨ n = 2 ∨ n = 3 := by omega
 all_goals rfl
theorem Bg.more {wB w w1 w2 : World} {T k n V O : Nat} {p r : Nat → Nat} (b : Bg wB w T k n p r) (hn : n < 4) (hV : w.heap.size ≤ V) (hO : w1.heap.size ≤ O) (a1 : Apart [] w w1) (a2 : Apart [] w1 w2) (pv : Ho w1 V (new0 k)) (rv : Dv w2 O (rv0 k) ⟨none, 0, 0⟩) : Bg wB ((w2.setCell ⟨T, 1 + n, none⟩ (ptV V)).setCell ⟨T, 5 + n, none⟩ (ptV O)) T k (n + 1) (fun i => if i = n then V else p i) (fun i => if i = n then O else r i) := by
 have a := a1.trans a2
 have b2 := b.kept0 a
 have hT := lt_of_heap b.blk
 have aT : Apart [T] w2 ((w2.setCell ⟨T, 1 + n, none⟩ (ptV V)).setCell ⟨T, 5 + n, none⟩ (ptV O)) := ((Apart.refl [T] w2).setCell (.inl (by simp)) _).setCell (.inl (by simp)) _
 have hb : ((w2.setCell ⟨T, 1 + n, none⟩ (ptV V)).setCell ⟨T, 5 + n, none⟩ (ptV O)).heap[T]? = some (.cells (tbG k (fun i => if i < n + 1 then ptV (if i = n then V else p i) else .pointer none) (fun i => if i < n + 1 then ptV (if i = n then O else r i) else .pointer none) ⟨none, 0, 0⟩ ⟨none, 0, 0⟩).toArray 49 (0, 0)) := by
  have h1 := heap_setCell_same w2 T (1 + n) _ 49 (ptV V) b2.blk
  have h2 := heap_setCell_same _ T (5 + n) _ 49 (ptV O) h1
  rw [h2, List.setIfInBounds_toArray, List.setIfInBounds_toArray, tbG_set _ _ _ _ _ hn]
  have e : ∀ (f : Nat → Nat) (x : Nat), (fun i => if i = n then ptV x else if i < n then ptV (f i) else Value.pointer none) = fun i => if i < n + 1 then ptV (if i = n then x else f i) else .pointer none := fun f x => by
   funext i
   by_cases c : i = n
   ·rw [if_pos c, if_pos (by omega), if_pos c]
   ·rw [if_neg c]
    by_cases d : i < n
    ·rw [if_pos d, if_pos (by omega), if_neg c]
    ·rw [if_neg d, if_neg (by omega)]
  rw [e p V, e r O]
 have hX : ∀ {ty : Nat}, ty ≠ 49 → ∀ q ∈ [T], ∀ cur m, w2.heap[q]? ≠ some (.cells cur ty m) := fun {ty} h q hq cur m e => by
  rw [List.mem_singleton.1 hq, b2.blk] at e
  simp only [Option.some.injEq, Obj.cells.injEq] at e
  exact h e.2.1.symm
 have hsz := aT.size
 have hsz1 := a1.size
 have hsz2 := a2.size
 have hV2 : V < w1.heap.size := by
  obtain ⟨b0, hb0⟩ := pv.bd
  exact lt_of_heap (show w1.heap[V]? = _ from hb0)
 have hO2 : O < w2.heap.size := lt_of_heap rv.blk
 have pvT : ∀ {V' : Nat}, Ho w2 V' (new0 k) → Ho ((w2.setCell ⟨T, 1 + n, none⟩ (ptV V)).setCell ⟨T, 5 + n, none⟩ (ptV O)) V' (new0 k) := fun {V'} h => h.keptX aT (fun hm => by
  obtain ⟨b0, hb0⟩ := h.bd
  have e : w2.heap[V']? = _ := hb0
  rw [List.mem_singleton.1 hm, b2.blk] at e
  simp at e) (hX (by decide))
 have rvT : ∀ {O' : Nat}, Dk w2 O' (rv0 k) ⟨none, 0, 0⟩ → Dk ((w2.setCell ⟨T, 1 + n, none⟩ (ptV V)).setCell ⟨T, 5 + n, none⟩ (ptV O)) O' (rv0 k) ⟨none, 0, 0⟩ := fun {O'} h => h.other aT (fun hm => by
  have e := h.dv.blk
  rw [List.mem_singleton.1 hm, b2.blk] at e
  simp at e) (hX (by decide))
 have hwB := b.ap.size
 refine ⟨hb, b.tn, fun i hi => ?_, fun i hi => ?_, fun i j hi hj hij => ?_, fun i j hi hj hij => ?_, fun i hi => ?_, fun i hi => ?_, b2.ap.trans' aT (fun y hy => by rw [List.mem_singleton.1 hy]; exact .inr b.tn)⟩
 ·by_cases c : i = n
  ·rw [if_pos c]; omega
  ·rw [if_neg c]
   have := b.pn i (by omega)
   omega
 ·by_cases c : i = n
  ·rw [if_pos c]; omega
  ·rw [if_neg c]
   have := b.rn i (by omega)
   omega
 ·by_cases c : i = n
  ·rw [if_pos c, if_neg (by omega)]
   have := b.pn j (by omega)
   omega
  ·rw [if_neg c]
   by_cases d : j = n
   ·rw [if_pos d]
    have := b.pn i (by omega)
    omega
   ·rw [if_neg d]; exact b.pd i j (by omega) (by omega) hij
 ·by_cases c : i = n
  ·rw [if_pos c, if_neg (by omega)]
   have := b.rn j (by omega)
   omega
  ·rw [if_neg c]
   by_cases d : j = n
   ·rw [if_pos d]
    have := b.rn i (by omega)
    omega
   ·rw [if_neg d]; exact b.rd i j (by omega) (by omega) hij
 ·by_cases c : i = n
  ·rw [if_pos c]; exact pvT (pv.kept0 a2)
  ·rw [if_neg c]; exact pvT (b2.pv i (by omega))
 ·by_cases c : i = n
  ·rw [if_pos c]; exact rvT (dk0 rv)
  ·rw [if_neg c]; exact rvT (b2.rv i (by omega))
theorem Bg.tb {wB w : World} {T k : Nat} {p r : Nat → Nat} (h1 : 1 ≤ k) (h4 : k ≤ 4) (b : Bg wB w T k 4 p r) : Tb wB w T k p r (fun _ => new0 k) (fun _ => []) [] [] ⟨none, 0, 0⟩ ⟨none, 0, 0⟩ (fun _ => False) := by
 refine ⟨b.blk, b.tn, fun i hi => (b.pn i hi).1, fun i hi => (b.rn i hi).1, b.pd, b.rd, b.pv, fun i hi => ⟨⟨none, 0, 0⟩, by rw [rvO_new h1 h4]; exact b.rv i hi⟩, fun i hi => Iv.new h1 h4, fun i hi => kd_new0 k h1 h4, fun i hi => Rl.new h1 h4, ⟨World.ownsRow_nil _ _ _ _, by simp [Sl.v, Value.ownBlock], b.ap⟩, rfl, ⟨World.ownsRow_nil _ _ _ _, by simp [Sl.v, Value.ownBlock], b.ap⟩, rfl, fun i x hx => by simp at hx, fun i x hx => by simp at hx, fun P hP => hP.elim, ⟨0, rfl⟩⟩
theorem build49 (k : Nat) (W : World) : (Instr.build 49 #[(0, .int .i64 (k : Int))]).run Tryz.prog W = .ok (.agg (tbG k (fun _ => .pointer none) (fun _ => .pointer none) ⟨none, 0, 0⟩ ⟨none, 0, 0⟩).toArray) W := by kernel_rfl
theorem begin_ok (w : World) (k : Nat) (h1 : 1 ≤ k) (h4 : k ≤ 4) : Calls Tryz.prog 10 #[.int .i64 (k : Int)] w fun x w' => ∃ T p r, x = .returned (.tuple #[.pointer (some ⟨T, 0, none⟩), .bool true]) ∧ Tb w w' T k p r (fun _ => new0 k) (fun _ => []) [] [] ⟨none, 0, 0⟩ ⟨none, 0, 0⟩ (fun _ => False) := by
 have H1 := hid h1
 have H4 := hid h4
 have hbd := build49 k w
 obtain ⟨T, HTe⟩ : ∃ T, Hid (T = w.heap.size) := ⟨_, hid rfl⟩
 obtain ⟨w1, Hw1⟩ : ∃ W, Hid (W = w.alloc (.cells (tbG k (fun _ => .pointer none) (fun _ => .pointer none) ⟨none, 0, 0⟩ ⟨none, 0, 0⟩).toArray 49)) := ⟨_, hid rfl⟩
 have HB0 : Hid (Bg w w1 T k 0 (fun _ => 0) (fun _ => 0)) := hid (by rw [HTe.out, Hw1.out]; exact Bg.start w k)
 clear h1 h4
 go_enter Tryz.func10, Tryz.ntmps10
 go_upto_region 3 with fail
 have e0 : w.alloc (.cells #[.int .i64 (k : Int), .pointer none, .pointer none, .pointer none, .pointer none, .pointer none, .pointer none, .pointer none, .pointer none, .slice none 0 0, .slice none 0 0] 49) = w1 := by rw [Hw1.out]; rfl
 rw [← HTe.out, e0]
 clear Hw1 HTe hbd e0
 go_loopw [5] (fun v5 wt => ∃ (n : Nat) (p r : Nat → Nat), v5 = .int .i64 (n : Int) ∧ n ≤ 4 ∧ Hid (Bg w wt T k n p r)) (fun v5 _ => 4 - natV v5)
 case atStart => exact ⟨0, _, _, rfl, by omega, HB0⟩
 case round =>
  clear HB0
  obtain ⟨n, p, r, rfl, hn, HB⟩ := hrel
  generalize wr = wt at *
  by_cases hlt : n < 4
  ·have hlti : ((n : Nat) : Int) < 4 := by omega
   have h4' : ¬ (4 : Int) ≤ (n : Int) := by omega
   have HN := hid (new_ok wt k H1.out H4.out)
   obtain ⟨V, HVe⟩ : ∃ V, Hid (V = wt.heap.size) := ⟨_, hid rfl⟩
   obtain ⟨w2, Hw2⟩ : ∃ W, Hid (W = wt.alloc (.cells #[zb k] 71)) := ⟨_, hid rfl⟩
   have HV2 : Hid (Ho w2 V (new0 k)) := hid (by rw [HVe.out, Hw2.out]; exact Ho.new wt k H1.out H4.out)
   have HA2 : Hid (Apart [] wt w2) := hid (zM Hw2.out)
   have HVn : Hid (wt.heap.size ≤ V) := hid (by rw [HVe.out]; exact Nat.le_refl _)
   rw [← HVe.out, ← Hw2.out] at HN
   clear Hw2 HVe
   have HRn := hid (rnew_ok w2 k H1.out H4.out)
   go_upto_region 7 with (first
    | (go_at_call 14; refine HN.out.mono ?_; rintro _ wn ⟨rfl, hwn⟩; rw [hwn]; clear hwn)
    | (go_at_call 19
       refine HRn.out.mono ?_
       rintro _ w3 ⟨O, rfl, hO, d3, a3⟩
       have HO := hid hO
       have HD3 := hid d3
       have HA3 := hid a3
       clear hO d3 a3))
   have HBg := hid (HB.out.more hlt HVn.out HO.out HA2.out HA3.out HV2.out HD3.out)
   have HB3 := hid (HB.out.kept0 (HA2.out.trans HA3.out))
   have z1 : w3.cell? ⟨T, 1 + n, none⟩ = some (if n < n then ptV (p n) else .pointer none) := dcell HB3.out.blk (tb_p _ _ _ _ _ hlt)
   have f1 : w3.frozen? ⟨T, 1 + n, none⟩ = false := frozen_of_row _ _ _ _ _ HB3.out.blk
   have hb4 := heap_setCell_same w3 T (1 + n) _ 49 (ptV V) HB3.out.blk
   have HB4 := hid hb4
   clear hb4
   obtain ⟨x5, z5⟩ : ∃ x, (w3.setCell ⟨T, 1 + n, none⟩ (.pointer (some ⟨V, 0, none⟩))).cell? ⟨T, 5 + n, none⟩ = some x := by
    have e := cell_of_row _ _ (5 + n) _ _ _ HB4.out
    have e2 : (w3.setCell ⟨T, 1 + n, none⟩ (ptV V)).cell? ⟨T, 5 + n, none⟩ = some _ := e.trans (Array.getElem?_eq_getElem (by simp [tbG]; omega))
    exact ⟨_, e2⟩
   have f5 : (w3.setCell ⟨T, 1 + n, none⟩ (.pointer (some ⟨V, 0, none⟩))).frozen? ⟨T, 5 + n, none⟩ = false := frozen_of_row _ _ _ _ _ HB4.out
   go_wp2_with fail
   exact ⟨⟨n + 1, _, _, by go_num, by omega, HBg⟩, by simp [natV]; omega⟩
  ·have hlti : ¬ ((n : Nat) : Int) < 4 := by omega
   obtain rfl : n = 4 := by omega
   go_wp2_with fail
   go_ret2
   exact ⟨T, rfl, p, r, HB.out.tb H1.out H4.out⟩
theorem begin_no (w : World) (k : Int) (hk : ¬ (1 ≤ k ∧ k ≤ 4)) : Calls Tryz.prog 10 #[.int .i64 k] w fun x w' => x = .returned (.tuple #[.pointer none, .bool true]) ∧ Apart [] w w' := by
 have HN := hid (fun W : World => new_none W k hk)
 have HR := hid (fun W : World => rnew_no W k hk)
 clear hk
 obtain ⟨w1, Hw1⟩ : ∃ W, Hid (W = w.alloc (.cells #[.int .i64 k, .pointer none, .pointer none, .pointer none, .pointer none, .pointer none, .pointer none, .pointer none, .pointer none, .slice none 0 0, .slice none 0 0] 49)) := ⟨_, hid rfl⟩
 have HA1 : Hid (Apart [] w w1) := hid (zM Hw1.out)
 go_enter Tryz.func10, Tryz.ntmps10
 go_upto_region 3 with fail
 rw [← Hw1.out]
 clear Hw1
 go_loopw [5] (fun v5 wt => Hid (v5 = .int .i64 0) ∧ Hid (Apart [] w wt)) (fun v5 _ => 0)
 case atStart => exact ⟨hid rfl, HA1⟩
 case round =>
  obtain ⟨Hv, HA⟩ := hrel
  obtain rfl := Hv.out
  generalize wr = wt at *
  go_wp2_with (first
   | (go_at_call 14; refine (HN.out wt).mono ?_; rintro _ wn ⟨rfl, hwn⟩; rw [hwn]; clear hwn)
   | (go_at_call 19; refine (HR.out wt).mono ?_; rintro _ wn ⟨rfl, hwn⟩; rw [hwn]; clear hwn))
  go_ret2
  exact ⟨rfl, HA.out⟩
structure Opx where
 K : Int
 I : Int
 J : Int
 a : Int
 b : Int
 on : Bool
 sl : Sl
 bs : List Nat
def Opx.vs (o : Opx) : Array Value := opC o.K o.I o.J o.a o.b o.on o.sl
structure Sr (w : World) (s : Sl) (os : List Opx) : Prop where
 len : s.n = os.length
 at_ : ∀ q o, os[q]? = some o → ∃ P off, s.p = some ⟨P, off, none⟩ ∧ P < w.heap.size ∧ w.rangeAt P (off + q * 7) o.vs.toList ∧ Gv w o.sl o.bs ∧ o.sl.n ≤ o.sl.c ∧ ∀ P' o', o.sl.p = some ⟨P', o', none⟩ ∧ o.bs ≠ [] → P' < w.heap.size
theorem rg_kept {w w' : World} {P o : Nat} {cs : List Value} (h : w.rangeAt P o cs) (a : Apart [] w w') (hP : P < w.heap.size) : w'.rangeAt P o cs := fun j v hj => (a.cell hP (by simp)).trans (h j v hj)
theorem size31' : (Tryz.prog.info? 31).map (·.size) = some 7 := by kernel_rfl
theorem ex_load31 {W : World} {eval : Operand → Value} {op : Oper} (x : Operand) (ho : op.op = .load 31 x) (b o : Nat) (cs : List Value) (hx : eval x = .pointer (some ⟨b, o, none⟩)) (hc : W.rangeAt b o cs) (hl : cs.length = 7) : (execOp eval op).run Tryz.prog W = .ok (.value (.agg cs.toArray)) W := by
 unfold execOp
 simp only [ho, hx, Instr.loadAt, Instr.sureAddr, Sem.run_bind, Sem.run_pure, Result.andThen_ok, run_loadVar_mid W b o 31 cs _ hc Tryz.underlying31 rfl (by rw [size31', hl])]
theorem ex_idx22 {W : World} {eval : Operand → Value} {op : Oper} {p : Option Addr} {n c q : Nat} (x y : Operand) (P o : Nat) (ho : op.op = .indexAddr 22 x y) (hx : eval x = .slice p n c) (hp : p = some ⟨P, o, none⟩) (hy : eval y = .int .i64 (q : Int)) (hq : q < n) : (execOp eval op).run Tryz.prog W = .ok (.value (.pointer (some ⟨P, o + q * 7, none⟩))) W := by
 subst hp
 unfold execOp
 simp only [ho, hx, hy]
 have hq2 : ((q : Nat) : Int) < ((n : Nat) : Int) := by omega
 go_simp
theorem vs_all (o : Opx) : o.vs.all Value.oneCell' = true := by
 unfold Opx.vs opC
 simp [Value.oneCell']
theorem ldG {P : Program} {ops : Array Oper} {rest : List Oper} {o : Oper} {a : Act} {w : World} {Q : Exit → Act → World → Prop} (hg : o.guard = some (20, true)) (hw : Region.wanted o (yielded ops a.tmps) = true) (v : Value) (h : (execOp a.eval o).run P w = .ok (.value v) w) (hK : wpList P ops Q rest (a.put o.dst v) w) : wpList P ops Q (o :: rest) a w := wpL_valG hw v h hK
end Go.Proofs.YtdbeeikjngnnnaaGreat.ty
