import Derived.Test.YtdbeeikjngnnnaaGreatC43
namespace Go.Proofs.YtdbeeikjngnnnaaGreat.ty
open Go.ChangeShapes Go.WideShapes Go.ChangeAt Go.RowKit
set_option linter.unusedVariables false
set_option linter.unusedSimpArgs false
set_option maxRecDepth 100000
set_option maxHeartbeats 8000000
variable {wB w w' w2 : World} {T k : Nat} {p r : Nat → Nat} {v : Nat → Vl} {ts : Nat → List Tg} {H L : List Sl} {sH sL : Sl} {h : Nat → Prop}
theorem does2 (t : Tb wB w T k p r v ts H L sH sL h) {I J a b : Int} {on : Bool} {sl : Sl} {bs : List Nat} (gv : Gv w sl bs) (hB : ∀ P o, sl.p = some ⟨P, o, none⟩ ∧ bs ≠ [] → P < wB.heap.size) : Calls Tryz.prog 20 #[.pointer (some ⟨T, 0, none⟩), .agg (opC 2 I J a b on sl)] w fun x w' => StP wB T k H L x w' := by
 obtain ⟨i, hi, hmask⟩ := mask3 I
 have Hi := hid hi
 have Hi4 : Hid (¬ (4 : Int) ≤ (i : Int)) := hid (by omega)
 have HT := hid t
 have HGv := hid gv
 have HB := hid hB
 obtain ⟨n, Hn⟩ : ∃ n, Hid (n = sl.n) := ⟨_, hid rfl⟩
 have hn2 : n ≤ 2000000 := by rw [Hn.out, ← gv.len]; exact gv.le
 obtain ⟨A, HAe⟩ : ∃ A, Hid (A = w.heap.size) := ⟨_, hid rfl⟩
 obtain ⟨w1, Hw1⟩ : ∃ W, Hid (W = w.alloc (.cells (opC 2 I J a b on sl) 31)) := ⟨_, hid rfl⟩
 have HA1 : Hid (Apart [] w w1) := hid (zM Hw1.out)
 have HBA1 : Hid (w1.heap[A]? = some (.cells (opC 2 I J a b on sl) 31 (0, 0))) := hid (zN HAe.out Hw1.out)
 have HAw : Hid (w.heap.size ≤ A) := hid (by rw [HAe.out]; exact Nat.le_refl _)
 have HLe := hid (lent_ok (HGv.out.kept0 HA1.out))
 have za1 : w1.cell? ⟨A, 1, none⟩ = some (.int .i64 I) := zK HBA1.out
 have za6 : w1.cell? ⟨A, 6, none⟩ = some (.slice sl.p n sl.c) := by rw [cell_of_row _ _ _ _ _ _ HBA1.out, Hn.out]; rfl
 rw [← Hn.out] at HLe
 clear t gv hB hi
 go_enter Tryz.func20, Tryz.ntmps20
 go_upto_region 1 with fail
 rw [← HAe.out, ← Hw1.out]
 clear Hw1 HAe
 go_upto_region 3 with (
  go_at_call 35
  refine HLe.out.mono ?_
  rintro _ w2 ⟨s2, rfl, b2⟩
  have HS2 := hid b2
  clear b2)
 clear za1 za6 hmask
 have HA2 := hid (HA1.out.trans HS2.out.nw.ap)
 have HT2 := hid (HT.out.kept0 HA2.out)
 have HBA := hid (keep0 HS2.out.nw.ap HBA1.out)
 have Hq2 : Hid (Bq w2 (s2.preB n) bs) := hid (Bq.pre (k := n) ⟨HS2.out.nw.rd, HS2.out.len.symm, HS2.out.nw.ok⟩ (by rw [Hn.out]; exact HGv.out.len.symm))
 have hsc : n ≤ s2.c := by
  have h1 := HS2.out.nw.cap
  have h2 := HS2.out.len
  have h3 := HGv.out.len
  have h4 := Hn.out
  rw [List.length_append] at h2
  omega
 have za6 : w2.cell? ⟨A, 6, none⟩ = some (.slice sl.p n sl.c) := by rw [cell_of_row _ _ _ _ _ _ HBA.out, Hn.out]; rfl
 go_upto_region 5 with (refine wpL_val rfl (.slice (s2.preB n).p (s2.preB n).n (s2.preB n).c) (ex_preB s2 n _ _ rfl rfl rfl hsc) ?_)
 clear za6 hsc
 have za0 : w2.cell? ⟨A, 0, none⟩ = some (.int .i64 2) := zK HBA.out
 have HC0 : Hid (∀ W, Apart [] w2 W → Calls Tryz.prog 36 #[.pointer (some ⟨p i, 0, none⟩), .int .i64 a, .slice (s2.preB n).p (s2.preB n).n (s2.preB n).c] W fun x w' => x = .returned (.int .i64 (doV (v i) 2 a b on bs).1) ∧ Ho w' (p i) (doV (v i) 2 a b on bs).2 ∧ Apart [p i] W w') := hid (by
  have hi := Hi.out
  have t2 := HT2.out
  have q2 := Hq2.out
  have ok := (t2.rl i hi).ok (t2.iv i hi).gt.1
  intro W hW
  exact Put_v (t2.pv i hi |>.kept0 hW) ok a (q2.kept0 hW).rd q2.len q2.ok)
 obtain ⟨s0, hs0⟩ := HT2.out.rv i Hi.out
 have HD2 := hid hs0
 obtain ⟨b0, hb0⟩ := HT2.out.bdP Hi.out
 have HP2 := hid hb0
 have HTl := hid (lt_of_heap HT2.out.blk)
 have HAl := hid (lt_of_heap HBA.out)
 have HTp : Hid (T ∉ [p i]) := hid (fun hm => by
  have e := HP2.out
  rw [← List.mem_singleton.1 hm, HT2.out.blk] at e
  simp at e)
 have HAp : Hid (A ∉ [p i]) := hid (fun hm => by
  have e := HP2.out
  rw [← List.mem_singleton.1 hm, HBA.out] at e
  simp at e)
 have HTr : Hid (T ∉ [r i]) := hid (fun hm => by
  have e := HD2.out.dv.blk
  rw [← List.mem_singleton.1 hm, HT2.out.blk] at e
  simp at e)
 have HAr : Hid (A ∉ [r i]) := hid (fun hm => by
  have e := HD2.out.dv.blk
  rw [← List.mem_singleton.1 hm, HBA.out] at e
  simp at e)
 have HRp : Hid (r i ∉ [p i]) := hid (fun hm => by
  have e := HP2.out
  rw [← List.mem_singleton.1 hm, HD2.out.dv.blk] at e
  simp at e)
 obtain ⟨e1, He1⟩ : ∃ e1, Hid (e1 = (doV (v i) 2 a b on bs).1) := ⟨_, hid rfl⟩
 obtain ⟨v1, Hv1⟩ : ∃ v1, Hid (v1 = (doV (v i) 2 a b on bs).2) := ⟨_, hid rfl⟩
 have HC : Hid (∀ W, Apart [] w2 W → Calls Tryz.prog 36 #[.pointer (some ⟨p i, 0, none⟩), .int .i64 a, .slice (s2.preB n).p (s2.preB n).n (s2.preB n).c] W fun x w' => x = .returned (.int .i64 e1) ∧ Ho w' (p i) v1 ∧ Apart [p i] W w') := hid (by rw [He1.out, Hv1.out]; exact HC0.out)
 clear hs0 hb0 HC0
 go_upto_region 9 with fail
 have hAd : Apart [p i] w2 w2.drew := (Apart.refl [p i] w2).drew
 have HAd : Hid (Apart [] w2 w2.drew) := hid ((Apart.refl [] w2).drew)
 refine wp_region_held_drew (S := fun W => Apart [p i] w2 W) (by kernel_rfl) hAd (fun hHeld => ?_)
 generalize w2.drew = wd at *
 clear hAd
 refine zt 0 38 ?_
 refine zt 1 39 ?_
 refine zt 2 40 ?_
 refine zt 3 41 ?_
 simp only [zA,zB,zC,zD,zF]
 refine tk 4 42 (.pointer (some ⟨T, 1 + i, none⟩)) rfl ?_ ?_
 ·intro W hSW; have h4 : ¬ (4 : Int) ≤ (i : Int) := (by have := Hi.out; omega); go_simp
 refine zu 5 43 rfl (fun W hSW => by have z : W.cell? ⟨T, 1 + i, none⟩ = some (.pointer (some ⟨p i, 0, none⟩)) := (hSW.cell HTl.out HTp.out).trans (HT2.out.cp Hi.out); go_simp <;> rfl) ?_
 refine zt 6 44 ?_
 refine zu 7 45 rfl (fun W hSW => by have z : W.cell? ⟨A, 3, none⟩ = some (.int .i64 a) := (hSW.cell HAl.out HAp.out).trans (zK HBA.out); go_simp <;> rfl) ?_
 refine zt 8 46 ?_
 simp only [zA,zB,zC,zD,zF]
 refine zQ 9 fun KK hKK => ?_
 have hC := HC.out wd HAd.out
 go_simp
 refine hC.mono ?_
 rintro _ w4 ⟨rfl, hv4, a4⟩
 have HV4 := hid hv4
 have hHx := hHeld.trans a4
 clear hv4 a4 hC
 try dsimp only
 refine hKK.out _ _ hHx (fun hHeld => ?_)
 clear hKK KK
 try simp only [zA,zB,zC,zD,zF]
 refine zt 10 8 ?_
 simp only [zA,zB,zC,zD,zF]
 refine wpAnyH_done (by kernel_rfl) ?_ _
 have HA4 : Hid (Apart [p i] w2 w4) := hid hHeld
 clear hHeld hHx
 have HTl4 : Hid (T < w4.heap.size) := hid (Nat.lt_of_lt_of_le HTl.out HA4.out.size)
 have HAl4 : Hid (A < w4.heap.size) := hid (Nat.lt_of_lt_of_le HAl.out HA4.out.size)
 have HTc4 : Hid (w4.cell? ⟨T, 5 + i, none⟩ = some (.pointer (some ⟨r i, 0, none⟩))) := hid ((HA4.out.cell HTl.out HTp.out).trans (HT2.out.cr Hi.out))
 have HBA4 : Hid (w4.heap[A]? = some (.cells (opC 2 I J a b on sl) 31 (0, 0))) := hid ((HA4.out.block A HAl.out HAp.out).trans HBA.out)
 have HD4 : Hid (Dk w4 (r i) (rvO (v i) (ts i)) s0) := hid (HD2.out.other HA4.out HRp.out (fun q hq cur m e => by
  rw [List.mem_singleton.1 hq, HP2.out] at e
  simp at e))
 have HBi : Hid (wB.heap.size ≤ p i ∧ wB.heap.size ≤ r i) := hid ⟨HT2.out.pn i Hi.out, HT2.out.rn i Hi.out⟩
 have HG4 : Hid (Gv w4 sl bs) := hid ((HGv.out.kept0 HA2.out).keptX HA4.out (fun P o e hm => by
  have h1 := HB.out P o e
  have h2 := HBi.out.1
  rw [← List.mem_singleton.1 hm] at h2
  omega))
 have HCr : Hid (∀ W, Apart [] w4 W → Calls Tryz.prog 40 #[.pointer (some ⟨r i, 0, none⟩), .agg (actC 2 a b on sl)] W fun x w' => x = .returned (.int .i64 e1) ∧ Apart [r i] W w' ∧ ∃ ts' s', Dk w' (r i) (rvO v1 ts') s' ∧ Rl v1 ts') := hid (by
  intro W hW
  rw [He1.out, Hv1.out]
  exact rdo_ok (HD4.out.kept0 hW) (HT2.out.rl i Hi.out) (HT2.out.iv i Hi.out) (HG4.out.kept0 hW).bq (fun P o e hm => by
   have h1 := HB.out P o e
   have h2 := HBi.out.2
   rw [← hm] at h2
   omega) 2 (by decide) (by decide) a b on)
 go_upto_region 16 with fail
 have hAd : Apart [r i] w4 w4.drew := (Apart.refl [r i] w4).drew
 have HAd4 : Hid (Apart [] w4 w4.drew) := hid ((Apart.refl [] w4).drew)
 refine wp_region_held_drew (S := fun W => Apart [r i] w4 W) (by kernel_rfl) hAd (fun hHeld => ?_)
 generalize w4.drew = wd4 at *
 clear hAd
 refine zt 0 83 ?_
 refine zt 1 84 ?_
 refine zt 2 85 ?_
 refine zt 3 86 ?_
 simp only [zA,zB,zC,zD,zF]
 refine tk 4 87 (.pointer (some ⟨T, 5 + i, none⟩)) rfl ?_ ?_
 ·intro W hSW; have h4 : ¬ (4 : Int) ≤ (i : Int) := (by have := Hi.out; omega); go_simp
 refine zu 5 88 rfl (fun W hSW => by have z : W.cell? ⟨T, 5 + i, none⟩ = some (.pointer (some ⟨r i, 0, none⟩)) := (hSW.cell HTl4.out HTr.out).trans HTc4.out; go_simp <;> rfl) ?_
 refine zt 6 89 ?_
 refine zu 7 90 rfl (fun W hSW => by have z : W.cell? ⟨A, 0, none⟩ = some (.int .i64 2) := (hSW.cell HAl4.out HAr.out).trans (zK HBA4.out); go_simp <;> rfl) ?_
 refine zt 8 91 ?_
 refine zu 9 92 rfl (fun W hSW => by have z : W.cell? ⟨A, 3, none⟩ = some (.int .i64 a) := (hSW.cell HAl4.out HAr.out).trans (zK HBA4.out); go_simp <;> rfl) ?_
 refine zt 10 93 ?_
 refine zu 11 94 rfl (fun W hSW => by have z : W.cell? ⟨A, 4, none⟩ = some (.int .i64 b) := (hSW.cell HAl4.out HAr.out).trans (zK HBA4.out); go_simp <;> rfl) ?_
 refine zt 12 95 ?_
 refine zu 13 96 rfl (fun W hSW => by have z : W.cell? ⟨A, 5, none⟩ = some (.bool on) := (hSW.cell HAl4.out HAr.out).trans (zK HBA4.out); go_simp <;> rfl) ?_
 refine zt 14 97 ?_
 refine zu 15 98 rfl (fun W hSW => by have z : W.cell? ⟨A, 6, none⟩ = some (.slice sl.p sl.n sl.c) := (hSW.cell HAl4.out HAr.out).trans (zK HBA4.out); go_simp <;> rfl) ?_
 simp only [zA,zB,zC,zD,zF]
 refine tk 16 99 (.agg (actC 2 a b on sl)) rfl ?_ ?_
 ·intro W hSW; exact ex_build81 _ _ _ _ _ rfl rfl rfl rfl rfl rfl
 simp only [zA,zB,zC,zD,zF]
 refine zQ 17 fun KK hKK => ?_
 have hC := HCr.out wd4 HAd4.out
 go_simp
 refine hC.mono ?_
 rintro _ w5 ⟨rfl, a5, ts5, s5, k5, l5⟩
 have HD5 := hid k5
 have HL5 := hid l5
 have hHx := hHeld.trans a5
 clear k5 l5 a5 hC
 try dsimp only
 refine hKK.out _ _ hHx (fun hHeld => ?_)
 clear hKK KK
 try simp only [zA,zB,zC,zD,zF]
 refine zt 18 9 ?_
 simp only [zA,zB,zC,zD,zF]
 refine wpAnyH_done (by kernel_rfl) ?_ _
 have HA5 : Hid (Apart [r i] w4 w5) := hid hHeld
 clear hHeld hHx
 -- the table, behind both
 have HV5 : Hid (Ho w5 (p i) v1) := hid (HV4.out.keptX HA5.out (fun hm => HRp.out (by rw [← List.mem_singleton.1 hm]; simp)) (fun q hq cur m e => by
  rw [List.mem_singleton.1 hq, HD4.out.dv.blk] at e
  simp at e))
 have HTb5 : Hid (w5.heap[T]? = some (.cells (tbC k p r sH sL).toArray 49 (0, 0))) := hid ((HA5.out.block T HTl4.out HTr.out).trans ((HA4.out.block T HTl.out HTp.out).trans HT2.out.blk))
 have HA25 : Hid (Apart [p i, r i, T] w2 w5) := hid ((HA4.out.mono (by simp)).trans (HA5.out.mono (by simp)))
 have Hiv : Hid (Iv v1 ∧ v1.kd = k) := hid (by
  have iv := HT2.out.iv i Hi.out
  have kd := HT2.out.kd i Hi.out
  rw [Hv1.out, ← kd]
  exact iv.put a bs)
 have HT5 : Hid (Tb wB w5 T k p r (upd v i v1) (upd ts i ts5) H L sH sL h) := hid (by
  have e := HT2.out.next Hi.out (p' := p i) (r' := r i) HA25.out (by rw [upd_self, upd_self]; exact HTb5.out) (.inl rfl) (.inl rfl) HV5.out HD5.out Hiv.out.1 HL5.out Hiv.out.2
  rw [upd_self, upd_self] at e
  exact e)
 have HS5 : Hid (Bf wB w5 s2 (bs ++ [7, 8])) := hid (by
  have hne : ∀ {X : Nat}, (∃ cur t m, t ≠ 5 ∧ w2.heap[X]? = some (.cells cur t m)) → ∀ q, s2.v.ownBlock = some q → q ≠ X := fun {X} hx q hq e => by
   obtain ⟨cur, e2⟩ := own_typ HS2.out.nw.own hq
   obtain ⟨c2, t2, m2, h5, e3⟩ := hx
   rw [e, e3] at e2
   simp only [Option.some.injEq, Obj.cells.injEq] at e2
   exact h5 e2.2.1
  refine ⟨⟨own_apart (own_apart HS2.out.nw.own HA4.out (fun q hq hm => hne ⟨_, _, _, (by decide), HP2.out⟩ q hq (List.mem_singleton.1 hm))) HA5.out (fun q hq hm => hne ⟨_, _, _, (by decide), HD2.out.dv.blk⟩ q hq (List.mem_singleton.1 hm)), fun q hq => ?_, HT5.out.ap⟩, HS2.out.len⟩
  have h1 := HS2.out.nw.new q hq
  have h2 := HT.out.ap.size
  have h3 := HA1.out.size
  omega)
 have HG5 : Hid (Gv w5 sl bs) := hid (HG4.out.keptX HA5.out (fun P o e hm => by
  have h1 := HB.out P o e
  have h2 := HBi.out.2
  rw [← List.mem_singleton.1 hm] at h2
  omega))
 have HBk := hid (back_ok HS5.out HG5.out)
 have HBA5 : Hid (w5.heap[A]? = some (.cells (opC 2 I J a b on sl) 31 (0, 0))) := hid ((HA5.out.block A HAl4.out HAr.out).trans HBA4.out)
 have za6 : w5.cell? ⟨A, 6, none⟩ = some (.slice sl.p sl.n sl.c) := zK HBA5.out
 have heq : (e1 == e1) = true := by simp
 have HFin : Hid (∀ w6, Apart s2.v.ownBlock.toList w5 w6 → StP wB T k H L (.returned (.bool true)) w6) := hid (by
  intro w6 a6
  refine ⟨rfl, p, r, _, _, H, L, sH, sL, h, HT5.out.kept a6 (fun P hP => ?_), by omega, by omega, fun x hx => .inl hx, fun x hx => .inl hx⟩
  have hP' : s2.v.ownBlock = some P := by simpa using hP
  obtain ⟨cur, e⟩ := own_typ HS5.out.nw.own hP'
  have hnew := HS2.out.nw.new P hP'
  have h3 := HA1.out.size
  refine ⟨⟨⟨cur, _, .inl e⟩, fun hh => ?_, fun hh => ?_⟩, HS5.out.nw.new P hP'⟩
  ·obtain ⟨-, ⟨c, m, e2⟩, -⟩ := HT.out.hh P hh
   have : P < w.heap.size := e2.elim lt_of_heapM lt_of_heapM
   omega
  ·obtain ⟨c, e2⟩ := own_typ HT.out.nh.own hh
   have := lt_of_heap e2
   omega)
 clear HTb5 HA25 Hiv HT5 HS5 HG5 HBA5 HV5 HD5 HL5 HD4 HG4 HCr HC HTc4 HBA4
 go_wp2_with (
  go_at_call 41
  refine HBk.out.mono ?_
  rintro _ w6 ⟨rfl, a6⟩
  have HA6 := hid a6
  clear a6)
 go_ret
 exact HFin.out _ HA6.out
variable {wB w w' w2 : World} {T k : Nat} {p r : Nat → Nat} {v : Nat → Vl} {ts : Nat → List Tg} {H L : List Sl} {sH sL : Sl} {h : Nat → Prop}
theorem does3 (t : Tb wB w T k p r v ts H L sH sL h) {I J a b : Int} {on : Bool} {sl : Sl} {bs : List Nat} (gv : Gv w sl bs) (hB : ∀ P o, sl.p = some ⟨P, o, none⟩ ∧ bs ≠ [] → P < wB.heap.size) : Calls Tryz.prog 20 #[.pointer (some ⟨T, 0, none⟩), .agg (opC 3 I J a b on sl)] w fun x w' => StP wB T k H L x w' := by
 obtain ⟨i, hi, hmask⟩ := mask3 I
 have Hi := hid hi
 have Hi4 : Hid (¬ (4 : Int) ≤ (i : Int)) := hid (by omega)
 have HT := hid t
 have HGv := hid gv
 have HB := hid hB
 obtain ⟨n, Hn⟩ : ∃ n, Hid (n = sl.n) := ⟨_, hid rfl⟩
 have hn2 : n ≤ 2000000 := by rw [Hn.out, ← gv.len]; exact gv.le
 obtain ⟨A, HAe⟩ : ∃ A, Hid (A = w.heap.size) := ⟨_, hid rfl⟩
 obtain ⟨w1, Hw1⟩ : ∃ W, Hid (W = w.alloc (.cells (opC 3 I J a b on sl) 31)) := ⟨_, hid rfl⟩
 have HA1 : Hid (Apart [] w w1) := hid (zM Hw1.out)
 have HBA1 : Hid (w1.heap[A]? = some (.cells (opC 3 I J a b on sl) 31 (0, 0))) := hid (zN HAe.out Hw1.out)
 have HAw : Hid (w.heap.size ≤ A) := hid (by rw [HAe.out]; exact Nat.le_refl _)
 have HLe := hid (lent_ok (HGv.out.kept0 HA1.out))
 have za1 : w1.cell? ⟨A, 1, none⟩ = some (.int .i64 I) := zK HBA1.out
 have za6 : w1.cell? ⟨A, 6, none⟩ = some (.slice sl.p n sl.c) := by rw [cell_of_row _ _ _ _ _ _ HBA1.out, Hn.out]; rfl
 rw [← Hn.out] at HLe
 clear t gv hB hi
 go_enter Tryz.func20, Tryz.ntmps20
 go_upto_region 1 with fail
 rw [← HAe.out, ← Hw1.out]
 clear Hw1 HAe
 go_upto_region 3 with (
  go_at_call 35
  refine HLe.out.mono ?_
  rintro _ w2 ⟨s2, rfl, b2⟩
  have HS2 := hid b2
  clear b2)
 clear za1 za6 hmask
 have HA2 := hid (HA1.out.trans HS2.out.nw.ap)
 have HT2 := hid (HT.out.kept0 HA2.out)
 have HBA := hid (keep0 HS2.out.nw.ap HBA1.out)
 have Hq2 : Hid (Bq w2 (s2.preB n) bs) := hid (Bq.pre (k := n) ⟨HS2.out.nw.rd, HS2.out.len.symm, HS2.out.nw.ok⟩ (by rw [Hn.out]; exact HGv.out.len.symm))
 have hsc : n ≤ s2.c := by
  have h1 := HS2.out.nw.cap
  have h2 := HS2.out.len
  have h3 := HGv.out.len
  have h4 := Hn.out
  rw [List.length_append] at h2
  omega
 have za6 : w2.cell? ⟨A, 6, none⟩ = some (.slice sl.p n sl.c) := by rw [cell_of_row _ _ _ _ _ _ HBA.out, Hn.out]; rfl
 go_upto_region 5 with (refine wpL_val rfl (.slice (s2.preB n).p (s2.preB n).n (s2.preB n).c) (ex_preB s2 n _ _ rfl rfl rfl hsc) ?_)
 clear za6 hsc
 have za0 : w2.cell? ⟨A, 0, none⟩ = some (.int .i64 3) := zK HBA.out
 have HC0 : Hid (∀ W, Apart [] w2 W → Calls Tryz.prog 37 #[.pointer (some ⟨p i, 0, none⟩), .slice (s2.preB n).p (s2.preB n).n (s2.preB n).c] W fun x w' => x = .returned (.int .i64 (doV (v i) 3 a b on bs).1) ∧ Ho w' (p i) (doV (v i) 3 a b on bs).2 ∧ Apart [p i] W w') := hid (by
  have hi := Hi.out
  have t2 := HT2.out
  have q2 := Hq2.out
  have ok := (t2.rl i hi).ok (t2.iv i hi).gt.1
  intro W hW
  exact Take_v (t2.pv i hi |>.kept0 hW) ok (q2.kept0 hW).rd q2.len q2.ok)
 obtain ⟨s0, hs0⟩ := HT2.out.rv i Hi.out
 have HD2 := hid hs0
 obtain ⟨b0, hb0⟩ := HT2.out.bdP Hi.out
 have HP2 := hid hb0
 have HTl := hid (lt_of_heap HT2.out.blk)
 have HAl := hid (lt_of_heap HBA.out)
 have HTp : Hid (T ∉ [p i]) := hid (fun hm => by
  have e := HP2.out
  rw [← List.mem_singleton.1 hm, HT2.out.blk] at e
  simp at e)
 have HAp : Hid (A ∉ [p i]) := hid (fun hm => by
  have e := HP2.out
  rw [← List.mem_singleton.1 hm, HBA.out] at e
  simp at e)
 have HTr : Hid (T ∉ [r i]) := hid (fun hm => by
  have e := HD2.out.dv.blk
  rw [← List.mem_singleton.1 hm, HT2.out.blk] at e
  simp at e)
 have HAr : Hid (A ∉ [r i]) := hid (fun hm => by
  have e := HD2.out.dv.blk
  rw [← List.mem_singleton.1 hm, HBA.out] at e
  simp at e)
 have HRp : Hid (r i ∉ [p i]) := hid (fun hm => by
  have e := HP2.out
  rw [← List.mem_singleton.1 hm, HD2.out.dv.blk] at e
  simp at e)
 obtain ⟨e1, He1⟩ : ∃ e1, Hid (e1 = (doV (v i) 3 a b on bs).1) := ⟨_, hid rfl⟩
 obtain ⟨v1, Hv1⟩ : ∃ v1, Hid (v1 = (doV (v i) 3 a b on bs).2) := ⟨_, hid rfl⟩
 have HC : Hid (∀ W, Apart [] w2 W → Calls Tryz.prog 37 #[.pointer (some ⟨p i, 0, none⟩), .slice (s2.preB n).p (s2.preB n).n (s2.preB n).c] W fun x w' => x = .returned (.int .i64 e1) ∧ Ho w' (p i) v1 ∧ Apart [p i] W w') := hid (by rw [He1.out, Hv1.out]; exact HC0.out)
 clear hs0 hb0 HC0
 have zp : w2.cell? ⟨T, 1 + i, none⟩ = some (.pointer (some ⟨p i, 0, none⟩)) := HT2.out.cp Hi.out
 have h4 : ¬ (4 : Int) ≤ (i : Int) := by have := Hi.out; omega
 go_upto_region 16 with (
  go_at_call 37
  refine (HC.out w2 (Apart.refl _ _)).mono ?_
  rintro _ w4 ⟨rfl, hv4, a4⟩
  have HV4 := hid hv4
  have HA4 := hid a4
  clear hv4 a4)
 clear zp h4
 have HTl4 : Hid (T < w4.heap.size) := hid (Nat.lt_of_lt_of_le HTl.out HA4.out.size)
 have HAl4 : Hid (A < w4.heap.size) := hid (Nat.lt_of_lt_of_le HAl.out HA4.out.size)
 have HTc4 : Hid (w4.cell? ⟨T, 5 + i, none⟩ = some (.pointer (some ⟨r i, 0, none⟩))) := hid ((HA4.out.cell HTl.out HTp.out).trans (HT2.out.cr Hi.out))
 have HBA4 : Hid (w4.heap[A]? = some (.cells (opC 3 I J a b on sl) 31 (0, 0))) := hid ((HA4.out.block A HAl.out HAp.out).trans HBA.out)
 have HD4 : Hid (Dk w4 (r i) (rvO (v i) (ts i)) s0) := hid (HD2.out.other HA4.out HRp.out (fun q hq cur m e => by
  rw [List.mem_singleton.1 hq, HP2.out] at e
  simp at e))
 have HBi : Hid (wB.heap.size ≤ p i ∧ wB.heap.size ≤ r i) := hid ⟨HT2.out.pn i Hi.out, HT2.out.rn i Hi.out⟩
 have HG4 : Hid (Gv w4 sl bs) := hid ((HGv.out.kept0 HA2.out).keptX HA4.out (fun P o e hm => by
  have h1 := HB.out P o e
  have h2 := HBi.out.1
  rw [← List.mem_singleton.1 hm] at h2
  omega))
 have HCr : Hid (∀ W, Apart [] w4 W → Calls Tryz.prog 40 #[.pointer (some ⟨r i, 0, none⟩), .agg (actC 3 a b on sl)] W fun x w' => x = .returned (.int .i64 e1) ∧ Apart [r i] W w' ∧ ∃ ts' s', Dk w' (r i) (rvO v1 ts') s' ∧ Rl v1 ts') := hid (by
  intro W hW
  rw [He1.out, Hv1.out]
  exact rdo_ok (HD4.out.kept0 hW) (HT2.out.rl i Hi.out) (HT2.out.iv i Hi.out) (HG4.out.kept0 hW).bq (fun P o e hm => by
   have h1 := HB.out P o e
   have h2 := HBi.out.2
   rw [← hm] at h2
   omega) 3 (by decide) (by decide) a b on)
 go_upto_region 16 with fail
 have hAd : Apart [r i] w4 w4.drew := (Apart.refl [r i] w4).drew
 have HAd4 : Hid (Apart [] w4 w4.drew) := hid ((Apart.refl [] w4).drew)
 refine wp_region_held_drew (S := fun W => Apart [r i] w4 W) (by kernel_rfl) hAd (fun hHeld => ?_)
 generalize w4.drew = wd4 at *
 clear hAd
 refine zt 0 83 ?_
 refine zt 1 84 ?_
 refine zt 2 85 ?_
 refine zt 3 86 ?_
 simp only [zA,zB,zC,zD,zF]
 refine tk 4 87 (.pointer (some ⟨T, 5 + i, none⟩)) rfl ?_ ?_
 ·intro W hSW; have h4 : ¬ (4 : Int) ≤ (i : Int) := (by have := Hi.out; omega); go_simp
 refine zu 5 88 rfl (fun W hSW => by have z : W.cell? ⟨T, 5 + i, none⟩ = some (.pointer (some ⟨r i, 0, none⟩)) := (hSW.cell HTl4.out HTr.out).trans HTc4.out; go_simp <;> rfl) ?_
 refine zt 6 89 ?_
 refine zu 7 90 rfl (fun W hSW => by have z : W.cell? ⟨A, 0, none⟩ = some (.int .i64 3) := (hSW.cell HAl4.out HAr.out).trans (zK HBA4.out); go_simp <;> rfl) ?_
 refine zt 8 91 ?_
 refine zu 9 92 rfl (fun W hSW => by have z : W.cell? ⟨A, 3, none⟩ = some (.int .i64 a) := (hSW.cell HAl4.out HAr.out).trans (zK HBA4.out); go_simp <;> rfl) ?_
 refine zt 10 93 ?_
 refine zu 11 94 rfl (fun W hSW => by have z : W.cell? ⟨A, 4, none⟩ = some (.int .i64 b) := (hSW.cell HAl4.out HAr.out).trans (zK HBA4.out); go_simp <;> rfl) ?_
 refine zt 12 95 ?_
 refine zu 13 96 rfl (fun W hSW => by have z : W.cell? ⟨A, 5, none⟩ = some (.bool on) := (hSW.cell HAl4.out HAr.out).trans (zK HBA4.out); go_simp <;> rfl) ?_
 refine zt 14 97 ?_
 refine zu 15 98 rfl (fun W hSW => by have z : W.cell? ⟨A, 6, none⟩ = some (.slice sl.p sl.n sl.c) := (hSW.cell HAl4.out HAr.out).trans (zK HBA4.out); go_simp <;> rfl) ?_
 simp only [zA,zB,zC,zD,zF]
 refine tk 16 99 (.agg (actC 3 a b on sl)) rfl ?_ ?_
 ·intro W hSW; exact ex_build81 _ _ _ _ _ rfl rfl rfl rfl rfl rfl
 simp only [zA,zB,zC,zD,zF]
 refine zQ 17 fun KK hKK => ?_
 have hC := HCr.out wd4 HAd4.out
 go_simp
 refine hC.mono ?_
 rintro _ w5 ⟨rfl, a5, ts5, s5, k5, l5⟩
 have HD5 := hid k5
 have HL5 := hid l5
 have hHx := hHeld.trans a5
 clear k5 l5 a5 hC
 try dsimp only
 refine hKK.out _ _ hHx (fun hHeld => ?_)
 clear hKK KK
 try simp only [zA,zB,zC,zD,zF]
 refine zt 18 9 ?_
 simp only [zA,zB,zC,zD,zF]
 refine wpAnyH_done (by kernel_rfl) ?_ _
 have HA5 : Hid (Apart [r i] w4 w5) := hid hHeld
 clear hHeld hHx
 -- the table, behind both
 have HV5 : Hid (Ho w5 (p i) v1) := hid (HV4.out.keptX HA5.out (fun hm => HRp.out (by rw [← List.mem_singleton.1 hm]; simp)) (fun q hq cur m e => by
  rw [List.mem_singleton.1 hq, HD4.out.dv.blk] at e
  simp at e))
 have HTb5 : Hid (w5.heap[T]? = some (.cells (tbC k p r sH sL).toArray 49 (0, 0))) := hid ((HA5.out.block T HTl4.out HTr.out).trans ((HA4.out.block T HTl.out HTp.out).trans HT2.out.blk))
 have HA25 : Hid (Apart [p i, r i, T] w2 w5) := hid ((HA4.out.mono (by simp)).trans (HA5.out.mono (by simp)))
 have Hiv : Hid (Iv v1 ∧ v1.kd = k) := hid (by
  have iv := HT2.out.iv i Hi.out
  have kd := HT2.out.kd i Hi.out
  rw [Hv1.out, ← kd]
  exact iv.take bs)
 have HT5 : Hid (Tb wB w5 T k p r (upd v i v1) (upd ts i ts5) H L sH sL h) := hid (by
  have e := HT2.out.next Hi.out (p' := p i) (r' := r i) HA25.out (by rw [upd_self, upd_self]; exact HTb5.out) (.inl rfl) (.inl rfl) HV5.out HD5.out Hiv.out.1 HL5.out Hiv.out.2
  rw [upd_self, upd_self] at e
  exact e)
 have HS5 : Hid (Bf wB w5 s2 (bs ++ [7, 8])) := hid (by
  have hne : ∀ {X : Nat}, (∃ cur t m, t ≠ 5 ∧ w2.heap[X]? = some (.cells cur t m)) → ∀ q, s2.v.ownBlock = some q → q ≠ X := fun {X} hx q hq e => by
   obtain ⟨cur, e2⟩ := own_typ HS2.out.nw.own hq
   obtain ⟨c2, t2, m2, h5, e3⟩ := hx
   rw [e, e3] at e2
   simp only [Option.some.injEq, Obj.cells.injEq] at e2
   exact h5 e2.2.1
  refine ⟨⟨own_apart (own_apart HS2.out.nw.own HA4.out (fun q hq hm => hne ⟨_, _, _, (by decide), HP2.out⟩ q hq (List.mem_singleton.1 hm))) HA5.out (fun q hq hm => hne ⟨_, _, _, (by decide), HD2.out.dv.blk⟩ q hq (List.mem_singleton.1 hm)), fun q hq => ?_, HT5.out.ap⟩, HS2.out.len⟩
  have h1 := HS2.out.nw.new q hq
  have h2 := HT.out.ap.size
  have h3 := HA1.out.size
  omega)
 have HG5 : Hid (Gv w5 sl bs) := hid (HG4.out.keptX HA5.out (fun P o e hm => by
  have h1 := HB.out P o e
  have h2 := HBi.out.2
  rw [← List.mem_singleton.1 hm] at h2
  omega))
 have HBk := hid (back_ok HS5.out HG5.out)
 have HBA5 : Hid (w5.heap[A]? = some (.cells (opC 3 I J a b on sl) 31 (0, 0))) := hid ((HA5.out.block A HAl4.out HAr.out).trans HBA4.out)
 have za6 : w5.cell? ⟨A, 6, none⟩ = some (.slice sl.p sl.n sl.c) := zK HBA5.out
 have heq : (e1 == e1) = true := by simp
 have HFin : Hid (∀ w6, Apart s2.v.ownBlock.toList w5 w6 → StP wB T k H L (.returned (.bool true)) w6) := hid (by
  intro w6 a6
  refine ⟨rfl, p, r, _, _, H, L, sH, sL, h, HT5.out.kept a6 (fun P hP => ?_), by omega, by omega, fun x hx => .inl hx, fun x hx => .inl hx⟩
  have hP' : s2.v.ownBlock = some P := by simpa using hP
  obtain ⟨cur, e⟩ := own_typ HS5.out.nw.own hP'
  have hnew := HS2.out.nw.new P hP'
  have h3 := HA1.out.size
  refine ⟨⟨⟨cur, _, .inl e⟩, fun hh => ?_, fun hh => ?_⟩, HS5.out.nw.new P hP'⟩
  ·obtain ⟨-, ⟨c, m, e2⟩, -⟩ := HT.out.hh P hh
   have : P < w.heap.size := e2.elim lt_of_heapM lt_of_heapM
   omega
  ·obtain ⟨c, e2⟩ := own_typ HT.out.nh.own hh
   have := lt_of_heap e2
   omega)
 clear HTb5 HA25 Hiv HT5 HS5 HG5 HBA5 HV5 HD5 HL5 HD4 HG4 HCr HC HTc4 HBA4
 go_wp2_with (
  go_at_call 41
  refine HBk.out.mono ?_
  rintro _ w6 ⟨rfl, a6⟩
  have HA6 := hid a6
  clear a6)
 go_ret
 exact HFin.out _ HA6.out
end Go.Proofs.YtdbeeikjngnnnaaGreat.ty
