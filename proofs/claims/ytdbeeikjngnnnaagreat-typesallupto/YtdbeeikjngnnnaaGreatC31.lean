import Derived.Test.YtdbeeikjngnnnaaGreatC30
namespace Go.Proofs.YtdbeeikjngnnnaaGreat.ty
open Go.ChangeShapes Go.WideShapes Go.ChangeAt Go.RowKit
set_option linter.unusedVariables false
set_option linter.unusedSimpArgs false
set_option maxRecDepth 100000
set_option maxHeartbeats 8000000
theorem wpAnyH_pass {P : Program} {ops : Array Oper} {Q : Exit → Act → World → Prop} {md : Region.Mode} {S : World → Prop} {fuel : Nat} {listed : Array Bool} {a : Act} {w : World} (i : Nat) {o : Oper} (hr : Region.ready md ops listed = [i]) (ho : ops[i]? = some o) (hw : Region.wanted o (yielded ops a.tmps) = false) (hS : S w) (h : wpAnyH P md ops Q S fuel (listed.setIfInBounds i true) (a.put o.dst undef) w) : wpAnyH P md ops Q S (fuel + 1) listed a w :=
 wpAnyH_ready hr (by simp) (AllReadyH.cons ho (fun K' hK => by rw [if_neg (by rw [hw]; simp)]; exact hK.out _ _ hS (fun _ => h)) AllReadyH.nil)
theorem size96 : (Tryz.prog.info? 96).map (·.size) = some 3 := by kernel_rfl
theorem ex_load96 {W : World} {eval : Operand → Value} {op : Oper} (x : Operand) (ho : op.op = .load 96 x) (b o : Nat) (cs : List Value) (hx : eval x = .pointer (some ⟨b, o, none⟩)) (hc : W.rangeAt b o cs) (hl : cs.length = 3) : (execOp eval op).run Tryz.prog W = .ok (.value (.agg cs.toArray)) W := by
 unfold execOp
 simp only [ho, hx, Instr.loadAt, Instr.sureAddr, Sem.run_bind, Sem.run_pure, Result.andThen_ok, run_loadVar_mid W b o 96 cs _ hc Tryz.underlying96 rfl (by rw [size96, hl])]
theorem Dv.tagR {w : World} {O : Nat} {r : Rv} {s : Sl} (h : Dv w O r s) (h0 : 0 < r.ts.length) : ∃ A o, s.p = some ⟨A, o, none⟩ ∧ ∀ q t, r.ts[q]? = some t → w.rangeAt A (o + q * 3) (tgC t) := by
 obtain ⟨A, o, hp, hA, hc⟩ := h.rd (by rw [tgL_len]; omega)
 refine ⟨A, o, hp, fun q t ht j v hj => ?_⟩
 have hj3 : j < 3 := (List.getElem?_eq_some_iff.1 hj).1
 rw [Nat.add_assoc]
 exact hc (q * 3 + j) v (by rw [tgL_at r.ts ht hj3]; exact hj)
theorem rg96 {W : World} {A : Nat} {t : Tg} (h : W.heap[A]? = some (.cells (tgC t).toArray 96 (0, 0))) : W.rangeAt A 0 (tgC t) := fun j v hj => by
 rw [cell_of_row _ _ _ _ _ _ h, Nat.zero_add]; simpa using hj
def Sxa (r : Rv) (X A : Nat) (cs : List Value) (W : World) : Prop := Sx r X W ∧ W.heap[A]? = some (.cells cs.toArray 96 (0, 0))
theorem rstay_ok {wB w : World} {X P Q : Nat} {xr r o : Rv} {sx s so : Sl} (hX : Dk w X xr sx) (hN : Nw wB w 96 3 sx (tgL xr.ts)) (hXn : wB.heap.size ≤ X) (hP : Dk wB P r s) (hQ : Dk wB Q o so) (h8 : ∀ t ∈ r.ts, t.a < 8) (hl : r.ts.length ≤ 9000) (hlo : o.ts.length ≤ 9000) (hlx : xr.ts.length ≤ 9000) : Calls Tryz.prog 43 #[.pointer (some ⟨X, 0, none⟩), .pointer (some ⟨P, 0, none⟩), .pointer (some ⟨Q, 0, none⟩)] w fun x w' => x = .returned (.tuple #[]) ∧ ∃ s', Dk w' X { xr with ts := r.ts.foldl (stS o.c o.ts) xr.ts } s' ∧ Nw wB w' 96 3 s' (tgL (r.ts.foldl (stS o.c o.ts) xr.ts)) := by
 have HP := hid hP
 have HQ := hid hQ
 have H8 := hid h8
 have Hlo := hid hlo
 have Hlx := hid hlx
 have HXn := hid hXn
 obtain ⟨N, HNN⟩ : ∃ n, Hid (n = r.ts.length) := ⟨_, hid rfl⟩
 have hn6 : N ≤ 9000 := by rw [HNN.out]; exact hl
 have hsn : s.n = N := by rw [HNN.out]; exact hP.dv.len
 have HX0 : Hid (Dk w X { xr with ts := (r.ts.take 0).foldl (stS o.c o.ts) xr.ts } sx) := hid hX
 have HN0 : Hid (Nw wB w 96 3 sx (tgL ((r.ts.take 0).foldl (stS o.c o.ts) xr.ts))) := hid hN
 clear hX hN hXn hP hQ h8 hl hlo hlx
 go_enter Tryz.func43, Tryz.ntmps43
 go_wp2_with fail
 go_loopw [6] (fun v6 wt => ∃ (q : Nat) (sx : Sl), v6 = .int .i64 (q : Int) ∧ q ≤ N ∧ Hid (Dk wt X { xr with ts := (r.ts.take q).foldl (stS o.c o.ts) xr.ts } sx) ∧ Hid (Nw wB wt 96 3 sx (tgL ((r.ts.take q).foldl (stS o.c o.ts) xr.ts)))) (fun v6 _ => N - natV v6)
 case atStart => exact ⟨0, sx, rfl, Nat.zero_le _, HX0, HN0⟩
 case round =>
  clear HX0 HN0
  obtain ⟨q, sx, rfl, hq, HX, HN⟩ := hrel
  generalize wr = wt at *
  have HPt := hid (HP.out.kept0 HN.out.ap)
  have HQt := hid (HQ.out.kept0 HN.out.ap)
  have zs := HPt.out.dv.tags
  rw [hsn] at zs
  obtain ⟨xs, Hxs⟩ : ∃ xs, Hid (xs = (r.ts.take q).foldl (stS o.c o.ts) xr.ts) := ⟨_, hid rfl⟩
  rw [← Hxs.out] at HX HN
  by_cases hlt : q < N
  ·have hlti : ((q : Nat) : Int) < ((N : Nat) : Int) := by omega
   have HXl := hid (lt_of_heap HX.out.dv.blk)
   have Hxl : Hid (xs.length ≤ 18000) := hid (by
    have h1 := stS_len o.c o.ts (r.ts.take q) xr.ts
    rw [← Hxs.out, List.length_take] at h1
    have := Hlx.out
    omega)
   obtain ⟨A0, o0, hsp, hev⟩ := HPt.out.dv.tagR (by have := HNN.out; omega)
   obtain ⟨t, Ht⟩ : ∃ t, Hid (r.ts[q]? = some t) := ⟨_, hid (List.getElem?_eq_getElem (by have := HNN.out; omega))⟩
   have Htk : Hid ((r.ts.take (q + 1)).foldl (stS o.c o.ts) xr.ts = stS o.c o.ts xs t) := hid (by
    have hql : q < r.ts.length := by have := HNN.out; omega
    have h1 := Ht.out
    rw [List.getElem?_eq_getElem hql] at h1
    rw [List.take_succ_eq_append_getElem hql, Option.some.inj h1, List.foldl_append, ← Hxs.out]
    rfl)
   have Hrg := hid (hev q t Ht.out)
   have Hi : Hid (t.a < 8) := hid (H8.out t (List.mem_of_getElem? Ht.out))
   rw [hsp] at zs
   clear hev hsp
   obtain ⟨e, a, n⟩ := t
   have hi8 : ¬ (8 : Int) ≤ (a : Int) := by have : a < 8 := Hi.out; omega
   have Hi8 := hid hi8
   clear hi8
   go_upto_region 4 with (first
    | refine wpL_val rfl (.agg (tgC ⟨e, a, n⟩).toArray) (ex_load96 _ rfl A0 (o0 + q * 3) (tgC ⟨e, a, n⟩) rfl Hrg.out rfl) ?_
    | refine wpList_store_row rfl 96 _ _ rfl wt.heap.size (tgC ⟨e, a, n⟩).toArray rfl rfl 96 _ (heap_alloc_new wt _) (by rw [size96]; rfl) rfl (by simp [tgC, Value.oneCell']) ?_)
   have HB5 := hid (put_new (w := wt) (z := #[.string ⟨#[]⟩, .int .i64 0, .int .i64 0]) (cs := (tgC ⟨e, a, n⟩).toArray) (T := 96))
   have HA5 := hid (put_apart (w := wt) (z := #[.string ⟨#[]⟩, .int .i64 0, .int .i64 0]) (cs := (tgC ⟨e, a, n⟩).toArray) (T := 96))
   obtain ⟨A, HAe⟩ : ∃ A, Hid (A = wt.heap.size) := ⟨_, hid rfl⟩
   rw [← HAe.out] at HB5 HA5 ⊢
   generalize (wt.alloc (.cells #[.string ⟨#[]⟩, .int .i64 0, .int .i64 0] 96)).setRow A (tgC ⟨e, a, n⟩).toArray = w5 at *
   clear zs Hrg
   have HAl := hid (lt_of_heap HB5.out)
   have Hz0 : Hid (w5.cell? ⟨A, 0, none⟩ = some (.string e)) := hid (zK HB5.out)
   have Hz1 : Hid (w5.cell? ⟨A, 1, none⟩ = some (.int .i64 (a : Nat))) := hid (zK HB5.out)
   have Hz2 : Hid (w5.cell? ⟨A, 2, none⟩ = some (.int .i64 (n : Nat))) := hid (zK HB5.out)
   obtain ⟨m, Hm⟩ : ∃ m, Hid (m = o.c.getD a 0) := ⟨_, hid rfl⟩
   have HQ5 := hid (HQt.out.kept0 HA5.out)
   have HQl := hid (lt_of_heap HQ5.out.dv.blk)
   have HQc : Hid (w5.cell? ⟨Q, 17 + a, none⟩ = some (.int .i64 m)) := hid (by rw [HQ5.out.dv.count Hi.out, ← Hm.out])
   have HX5 := hid (HX.out.kept0 HA5.out)
   obtain ⟨ny, Hny⟩ : ∃ x, Hid (x = numT o.ts e a) := ⟨_, hid rfl⟩
   obtain ⟨nx, Hnx⟩ : ∃ x, Hid (x = numT xs e a) := ⟨_, hid rfl⟩
   have HNy : Hid (∀ W, Apart [] w5 W → Calls Tryz.prog 57 #[.pointer (some ⟨Q, 0, none⟩), .string e, .int .i64 (a : Int)] W fun x w' => x = .returned (.int .i64 (ny : Int)) ∧ Apart [] W w') := hid (fun W aW => by rw [Hny.out]; exact dnum_ok (HQ5.out.kept0 aW).dv (by have := Hlo.out; omega) e a)
   have HNx : Hid (∀ W, Apart [] w5 W → Calls Tryz.prog 57 #[.pointer (some ⟨X, 0, none⟩), .string e, .int .i64 (a : Int)] W fun x w' => x = .returned (.int .i64 (nx : Int)) ∧ Apart [] W w') := hid (fun W aW => by rw [Hnx.out]; exact dnum_ok (HX5.out.kept0 aW).dv (by have : xs.length ≤ 18000 := Hxl.out; show xs.length ≤ _; omega) e a)
   obtain ⟨dv, Hdv⟩ : ∃ b, Hid (b = stP o.c o.ts xs ⟨e, a, n⟩) := ⟨_, hid rfl⟩
   have HdvE : Hid (dv = ((decide (m < (n : Int)) || ny == n) && !(nx == n))) := hid (by rw [Hdv.out, Hm.out, Hny.out, Hnx.out]; rfl)
   clear Hdv
   simp only [Act.put]
   go_cut [55] from 24 to 55 (fun s wx => s = .bool dv ∧ Apart [] w5 wx)
   case first =>
    clear HX HN HPt HQt HX5 HQ5 Hxl HB5 HA5 HAe Htk Ht Hxs HXl HP HQ H8
    by_cases hb : m < (n : Int)
    ·have Hb : Hid ((n : Int) > m) := hid hb
     by_cases hx : nx = n
     ·have Hx : Hid (((nx : Int) != (n : Int)) = false) := hid (by rw [hx]; simp)
      have Hdv : Hid (dv = false) := hid (by rw [HdvE.out, hx]; simp)
      clear hb hx HdvE
      refine wp_region_held_drew (S := fun W => Apart [] w5 W) (by kernel_rfl) (Apart.refl [] w5).drew fun hHeld => ?_
      generalize w5.drew = wd at *
      refine zt 0 24 ?_
      simp only [zA,zB,zC,zD,zF]
      refine zu 1 25 rfl (fun W hSW => by have z : W.cell? ⟨A, 2, none⟩ = some (.int .i64 (n : Nat)) := (hSW.cell HAl.out (by simp)).trans Hz2.out; go_simp <;> rfl) ?_
      simp only [zA,zB,zC,zD,zF]
      refine zt 2 26 ?_
      simp only [zA,zB,zC,zD,zF]
      refine zt 3 27 ?_
      simp only [zA,zB,zC,zD,zF]
      refine zu 4 28 rfl (fun W hSW => by have z : W.cell? ⟨A, 1, none⟩ = some (.int .i64 (a : Nat)) := (hSW.cell HAl.out (by simp)).trans Hz1.out; go_simp <;> rfl) ?_
      simp only [zA,zB,zC,zD,zF]
      refine zt 5 29 ?_
      simp only [zA,zB,zC,zD,zF]
      refine zt 6 30 ?_
      simp only [zA,zB,zC,zD,zF]
      refine tk 7 31 (.pointer (some ⟨Q, 17 + a, none⟩)) rfl ?_ ?_
      ·intro W hSW; have h8 := Hi8.out; go_simp
      refine zu 8 32 rfl (fun W hSW => by have z : W.cell? ⟨Q, 17 + a, none⟩ = some (.int .i64 m) := (hSW.cell HQl.out (by simp)).trans HQc.out; go_simp <;> rfl) ?_
      simp only [zA,zB,zC,zD,zF]
      refine tk 9 33 (.bool true) rfl ?_ ?_
      ·intro W hSW; have hb := Hb.out; go_simp
      refine zt 10 34 ?_
      simp only [zA,zB,zC,zD,zF]
      refine tu 11 35 rfl ?_
      simp only [zA,zB,zC,zD,zF]
      refine tu 12 36 rfl ?_
      simp only [zA,zB,zC,zD,zF]
      refine tu 13 37 rfl ?_
      simp only [zA,zB,zC,zD,zF]
      refine tu 14 38 rfl ?_
      simp only [zA,zB,zC,zD,zF]
      refine tu 15 39 rfl ?_
      simp only [zA,zB,zC,zD,zF]
      refine tu 17 41 rfl ?_
      simp only [zA,zB,zC,zD,zF]
      refine tu 18 42 rfl ?_
      simp only [zA,zB,zC,zD,zF]
      refine wpAnyH_pass 16 (o := ⟨some 40, _, _, _, _, _⟩) (by kernel_rfl) rfl (by kernel_rfl) (by assumption) ?_
      simp only [zA,zB,zC,zD,zF]
      refine tu 19 43 rfl ?_
      simp only [zA,zB,zC,zD,zF]
      refine zt 20 44 ?_
      simp only [zA,zB,zC,zD,zF]
      refine zt 21 45 ?_
      simp only [zA,zB,zC,zD,zF]
      refine zt 22 46 ?_
      simp only [zA,zB,zC,zD,zF]
      refine zt 23 47 ?_
      simp only [zA,zB,zC,zD,zF]
      refine zu 24 48 rfl (fun W hSW => by have z : W.cell? ⟨A, 0, none⟩ = some (.string e) := (hSW.cell HAl.out (by simp)).trans Hz0.out; go_simp <;> rfl) ?_
      simp only [zA,zB,zC,zD,zF]
      refine zt 25 49 ?_
      simp only [zA,zB,zC,zD,zF]
      refine zu 26 50 rfl (fun W hSW => by have z : W.cell? ⟨A, 1, none⟩ = some (.int .i64 (a : Nat)) := (hSW.cell HAl.out (by simp)).trans Hz1.out; go_simp <;> rfl) ?_
      simp only [zA,zB,zC,zD,zF]
      refine zt 28 52 ?_
      simp only [zA,zB,zC,zD,zF]
      refine zu 29 53 rfl (fun W hSW => by have z : W.cell? ⟨A, 2, none⟩ = some (.int .i64 (n : Nat)) := (hSW.cell HAl.out (by simp)).trans Hz2.out; go_simp <;> rfl) ?_
      simp only [zA,zB,zC,zD,zF]
      refine zQ 27 fun KK hKK => ?_
      go_simp
      refine (HNx.out wd hHeld).mono ?_
      rintro _ wa2 ⟨rfl, aX⟩
      have hHx := hHeld.trans aX
      try dsimp only
      refine hKK.out _ _ hHx (fun hHeld => ?_)
      clear hKK KK
      try simp only [zA,zB,zC,zD,zF]
      refine tk 30 54 (.bool false) rfl ?_ ?_
      ·intro W hSW; have hx := Hx.out; go_simp
      refine zt 31 55 ?_
      simp only [zA,zB,zC,zD,zF]
      refine wpAnyH_done (by kernel_rfl) ?_ _
      have HAn := hid hHeld
      clear hHeld
      go_wp2_with fail
      go_meet
      exact ⟨by rw [Hdv.out], HAn.out⟩
     ·have Hx : Hid (((nx : Int) != (n : Int)) = true) := hid (by simp; omega)
      have Hdv : Hid (dv = true) := hid (by rw [HdvE.out, beq_eq_false_iff_ne.2 hx, decide_eq_true hb]; rfl)
      clear hb hx HdvE
      refine wp_region_held_drew (S := fun W => Apart [] w5 W) (by kernel_rfl) (Apart.refl [] w5).drew fun hHeld => ?_
      generalize w5.drew = wd at *
      refine zt 0 24 ?_
      simp only [zA,zB,zC,zD,zF]
      refine zu 1 25 rfl (fun W hSW => by have z : W.cell? ⟨A, 2, none⟩ = some (.int .i64 (n : Nat)) := (hSW.cell HAl.out (by simp)).trans Hz2.out; go_simp <;> rfl) ?_
      simp only [zA,zB,zC,zD,zF]
      refine zt 2 26 ?_
      simp only [zA,zB,zC,zD,zF]
      refine zt 3 27 ?_
      simp only [zA,zB,zC,zD,zF]
      refine zu 4 28 rfl (fun W hSW => by have z : W.cell? ⟨A, 1, none⟩ = some (.int .i64 (a : Nat)) := (hSW.cell HAl.out (by simp)).trans Hz1.out; go_simp <;> rfl) ?_
      simp only [zA,zB,zC,zD,zF]
      refine zt 5 29 ?_
      simp only [zA,zB,zC,zD,zF]
      refine zt 6 30 ?_
      simp only [zA,zB,zC,zD,zF]
      refine tk 7 31 (.pointer (some ⟨Q, 17 + a, none⟩)) rfl ?_ ?_
      ·intro W hSW; have h8 := Hi8.out; go_simp
      refine zu 8 32 rfl (fun W hSW => by have z : W.cell? ⟨Q, 17 + a, none⟩ = some (.int .i64 m) := (hSW.cell HQl.out (by simp)).trans HQc.out; go_simp <;> rfl) ?_
      simp only [zA,zB,zC,zD,zF]
      refine tk 9 33 (.bool true) rfl ?_ ?_
      ·intro W hSW; have hb := Hb.out; go_simp
      refine zt 10 34 ?_
      simp only [zA,zB,zC,zD,zF]
      refine tu 11 35 rfl ?_
      simp only [zA,zB,zC,zD,zF]
      refine tu 12 36 rfl ?_
      simp only [zA,zB,zC,zD,zF]
      refine tu 13 37 rfl ?_
      simp only [zA,zB,zC,zD,zF]
      refine tu 14 38 rfl ?_
      simp only [zA,zB,zC,zD,zF]
      refine tu 15 39 rfl ?_
      simp only [zA,zB,zC,zD,zF]
      refine tu 17 41 rfl ?_
      simp only [zA,zB,zC,zD,zF]
      refine tu 18 42 rfl ?_
      simp only [zA,zB,zC,zD,zF]
      refine wpAnyH_pass 16 (o := ⟨some 40, _, _, _, _, _⟩) (by kernel_rfl) rfl (by kernel_rfl) (by assumption) ?_
      simp only [zA,zB,zC,zD,zF]
      refine tu 19 43 rfl ?_
      simp only [zA,zB,zC,zD,zF]
      refine zt 20 44 ?_
      simp only [zA,zB,zC,zD,zF]
      refine zt 21 45 ?_
      simp only [zA,zB,zC,zD,zF]
      refine zt 22 46 ?_
      simp only [zA,zB,zC,zD,zF]
      refine zt 23 47 ?_
      simp only [zA,zB,zC,zD,zF]
      refine zu 24 48 rfl (fun W hSW => by have z : W.cell? ⟨A, 0, none⟩ = some (.string e) := (hSW.cell HAl.out (by simp)).trans Hz0.out; go_simp <;> rfl) ?_
      simp only [zA,zB,zC,zD,zF]
      refine zt 25 49 ?_
      simp only [zA,zB,zC,zD,zF]
      refine zu 26 50 rfl (fun W hSW => by have z : W.cell? ⟨A, 1, none⟩ = some (.int .i64 (a : Nat)) := (hSW.cell HAl.out (by simp)).trans Hz1.out; go_simp <;> rfl) ?_
      simp only [zA,zB,zC,zD,zF]
      refine zt 28 52 ?_
      simp only [zA,zB,zC,zD,zF]
      refine zu 29 53 rfl (fun W hSW => by have z : W.cell? ⟨A, 2, none⟩ = some (.int .i64 (n : Nat)) := (hSW.cell HAl.out (by simp)).trans Hz2.out; go_simp <;> rfl) ?_
      simp only [zA,zB,zC,zD,zF]
      refine zQ 27 fun KK hKK => ?_
      go_simp
      refine (HNx.out wd hHeld).mono ?_
      rintro _ wa2 ⟨rfl, aX⟩
      have hHx := hHeld.trans aX
      try dsimp only
      refine hKK.out _ _ hHx (fun hHeld => ?_)
      clear hKK KK
      try simp only [zA,zB,zC,zD,zF]
      refine tk 30 54 (.bool true) rfl ?_ ?_
      ·intro W hSW; have hx := Hx.out; go_simp
      refine zt 31 55 ?_
      simp only [zA,zB,zC,zD,zF]
      refine wpAnyH_done (by kernel_rfl) ?_ _
      have HAn := hid hHeld
      clear hHeld
      go_wp2_with fail
      go_meet
      exact ⟨by rw [Hdv.out], HAn.out⟩
    ·have Hb : Hid (¬ (n : Int) > m) := hid hb
     by_cases hc : ny = n
     ·have Hc : Hid (((ny : Int) == (n : Int)) = true) := hid (by rw [hc]; simp)
      by_cases hx : nx = n
      ·have Hx : Hid (((nx : Int) != (n : Int)) = false) := hid (by rw [hx]; simp)
       have Hdv : Hid (dv = false) := hid (by rw [HdvE.out, hx]; simp)
       clear hb hx hc HdvE
       refine wp_region_held_drew (S := fun W => Apart [] w5 W) (by kernel_rfl) (Apart.refl [] w5).drew fun hHeld => ?_
       generalize w5.drew = wd at *
       refine zt 0 24 ?_
       simp only [zA,zB,zC,zD,zF]
       refine zu 1 25 rfl (fun W hSW => by have z : W.cell? ⟨A, 2, none⟩ = some (.int .i64 (n : Nat)) := (hSW.cell HAl.out (by simp)).trans Hz2.out; go_simp <;> rfl) ?_
       simp only [zA,zB,zC,zD,zF]
       refine zt 2 26 ?_
       simp only [zA,zB,zC,zD,zF]
       refine zt 3 27 ?_
       simp only [zA,zB,zC,zD,zF]
       refine zu 4 28 rfl (fun W hSW => by have z : W.cell? ⟨A, 1, none⟩ = some (.int .i64 (a : Nat)) := (hSW.cell HAl.out (by simp)).trans Hz1.out; go_simp <;> rfl) ?_
       simp only [zA,zB,zC,zD,zF]
       refine zt 5 29 ?_
       simp only [zA,zB,zC,zD,zF]
       refine zt 6 30 ?_
       simp only [zA,zB,zC,zD,zF]
       refine tk 7 31 (.pointer (some ⟨Q, 17 + a, none⟩)) rfl ?_ ?_
       ·intro W hSW; have h8 := Hi8.out; go_simp
       refine zu 8 32 rfl (fun W hSW => by have z : W.cell? ⟨Q, 17 + a, none⟩ = some (.int .i64 m) := (hSW.cell HQl.out (by simp)).trans HQc.out; go_simp <;> rfl) ?_
       simp only [zA,zB,zC,zD,zF]
       refine tk 9 33 (.bool false) rfl ?_ ?_
       ·intro W hSW; have hb := Hb.out; go_simp
       refine zt 10 34 ?_
       simp only [zA,zB,zC,zD,zF]
       refine zt 11 35 ?_
       simp only [zA,zB,zC,zD,zF]
       refine zt 12 36 ?_
       simp only [zA,zB,zC,zD,zF]
       refine zu 13 37 rfl (fun W hSW => by have z : W.cell? ⟨A, 0, none⟩ = some (.string e) := (hSW.cell HAl.out (by simp)).trans Hz0.out; go_simp <;> rfl) ?_
       simp only [zA,zB,zC,zD,zF]
       refine zt 14 38 ?_
       simp only [zA,zB,zC,zD,zF]
       refine zu 15 39 rfl (fun W hSW => by have z : W.cell? ⟨A, 1, none⟩ = some (.int .i64 (a : Nat)) := (hSW.cell HAl.out (by simp)).trans Hz1.out; go_simp <;> rfl) ?_
       simp only [zA,zB,zC,zD,zF]
       refine zt 17 41 ?_
       simp only [zA,zB,zC,zD,zF]
       refine zu 18 42 rfl (fun W hSW => by have z : W.cell? ⟨A, 2, none⟩ = some (.int .i64 (n : Nat)) := (hSW.cell HAl.out (by simp)).trans Hz2.out; go_simp <;> rfl) ?_
       simp only [zA,zB,zC,zD,zF]
       refine zQ 16 fun KK hKK => ?_
       go_simp
       refine (HNy.out wd hHeld).mono ?_
       rintro _ wa1 ⟨rfl, aX⟩
       have hHx := hHeld.trans aX
       try dsimp only
       refine hKK.out _ _ hHx (fun hHeld => ?_)
       clear hKK KK
       try simp only [zA,zB,zC,zD,zF]
       refine tk 19 43 (.bool true) rfl ?_ ?_
       ·intro W hSW; have hc := Hc.out; go_simp
       refine zt 20 44 ?_
       simp only [zA,zB,zC,zD,zF]
       refine zt 21 45 ?_
       simp only [zA,zB,zC,zD,zF]
       refine zt 22 46 ?_
       simp only [zA,zB,zC,zD,zF]
       refine zt 23 47 ?_
       simp only [zA,zB,zC,zD,zF]
       refine zu 24 48 rfl (fun W hSW => by have z : W.cell? ⟨A, 0, none⟩ = some (.string e) := (hSW.cell HAl.out (by simp)).trans Hz0.out; go_simp <;> rfl) ?_
       simp only [zA,zB,zC,zD,zF]
       refine zt 25 49 ?_
       simp only [zA,zB,zC,zD,zF]
       refine zu 26 50 rfl (fun W hSW => by have z : W.cell? ⟨A, 1, none⟩ = some (.int .i64 (a : Nat)) := (hSW.cell HAl.out (by simp)).trans Hz1.out; go_simp <;> rfl) ?_
       simp only [zA,zB,zC,zD,zF]
       refine zt 28 52 ?_
       simp only [zA,zB,zC,zD,zF]
       refine zu 29 53 rfl (fun W hSW => by have z : W.cell? ⟨A, 2, none⟩ = some (.int .i64 (n : Nat)) := (hSW.cell HAl.out (by simp)).trans Hz2.out; go_simp <;> rfl) ?_
       simp only [zA,zB,zC,zD,zF]
       refine zQ 27 fun KK hKK => ?_
       go_simp
       refine (HNx.out wa1 hHeld).mono ?_
       rintro _ wa2 ⟨rfl, aX⟩
       have hHx := hHeld.trans aX
       try dsimp only
       refine hKK.out _ _ hHx (fun hHeld => ?_)
       clear hKK KK
       try simp only [zA,zB,zC,zD,zF]
       refine tk 30 54 (.bool false) rfl ?_ ?_
       ·intro W hSW; have hx := Hx.out; go_simp
       refine zt 31 55 ?_
       simp only [zA,zB,zC,zD,zF]
       refine wpAnyH_done (by kernel_rfl) ?_ _
       have HAn := hid hHeld
       clear hHeld
       go_wp2_with fail
       go_meet
       exact ⟨by rw [Hdv.out], HAn.out⟩
      ·have Hx : Hid (((nx : Int) != (n : Int)) = true) := hid (by simp; omega)
       have Hdv : Hid (dv = true) := hid (by rw [HdvE.out, beq_eq_false_iff_ne.2 hx, hc]; simp)
       clear hb hx hc HdvE
       refine wp_region_held_drew (S := fun W => Apart [] w5 W) (by kernel_rfl) (Apart.refl [] w5).drew fun hHeld => ?_
       generalize w5.drew = wd at *
       refine zt 0 24 ?_
       simp only [zA,zB,zC,zD,zF]
       refine zu 1 25 rfl (fun W hSW => by have z : W.cell? ⟨A, 2, none⟩ = some (.int .i64 (n : Nat)) := (hSW.cell HAl.out (by simp)).trans Hz2.out; go_simp <;> rfl) ?_
       simp only [zA,zB,zC,zD,zF]
       refine zt 2 26 ?_
       simp only [zA,zB,zC,zD,zF]
       refine zt 3 27 ?_
       simp only [zA,zB,zC,zD,zF]
       refine zu 4 28 rfl (fun W hSW => by have z : W.cell? ⟨A, 1, none⟩ = some (.int .i64 (a : Nat)) := (hSW.cell HAl.out (by simp)).trans Hz1.out; go_simp <;> rfl) ?_
       simp only [zA,zB,zC,zD,zF]
       refine zt 5 29 ?_
       simp only [zA,zB,zC,zD,zF]
       refine zt 6 30 ?_
       simp only [zA,zB,zC,zD,zF]
       refine tk 7 31 (.pointer (some ⟨Q, 17 + a, none⟩)) rfl ?_ ?_
       ·intro W hSW; have h8 := Hi8.out; go_simp
       refine zu 8 32 rfl (fun W hSW => by have z : W.cell? ⟨Q, 17 + a, none⟩ = some (.int .i64 m) := (hSW.cell HQl.out (by simp)).trans HQc.out; go_simp <;> rfl) ?_
       simp only [zA,zB,zC,zD,zF]
       refine tk 9 33 (.bool false) rfl ?_ ?_
       ·intro W hSW; have hb := Hb.out; go_simp
       refine zt 10 34 ?_
       simp only [zA,zB,zC,zD,zF]
       refine zt 11 35 ?_
       simp only [zA,zB,zC,zD,zF]
       refine zt 12 36 ?_
       simp only [zA,zB,zC,zD,zF]
       refine zu 13 37 rfl (fun W hSW => by have z : W.cell? ⟨A, 0, none⟩ = some (.string e) := (hSW.cell HAl.out (by simp)).trans Hz0.out; go_simp <;> rfl) ?_
       simp only [zA,zB,zC,zD,zF]
       refine zt 14 38 ?_
       simp only [zA,zB,zC,zD,zF]
       refine zu 15 39 rfl (fun W hSW => by have z : W.cell? ⟨A, 1, none⟩ = some (.int .i64 (a : Nat)) := (hSW.cell HAl.out (by simp)).trans Hz1.out; go_simp <;> rfl) ?_
       simp only [zA,zB,zC,zD,zF]
       refine zt 17 41 ?_
       simp only [zA,zB,zC,zD,zF]
       refine zu 18 42 rfl (fun W hSW => by have z : W.cell? ⟨A, 2, none⟩ = some (.int .i64 (n : Nat)) := (hSW.cell HAl.out (by simp)).trans Hz2.out; go_simp <;> rfl) ?_
       simp only [zA,zB,zC,zD,zF]
       refine zQ 16 fun KK hKK => ?_
       go_simp
       refine (HNy.out wd hHeld).mono ?_
       rintro _ wa1 ⟨rfl, aX⟩
       have hHx := hHeld.trans aX
       try dsimp only
       refine hKK.out _ _ hHx (fun hHeld => ?_)
       clear hKK KK
       try simp only [zA,zB,zC,zD,zF]
       refine tk 19 43 (.bool true) rfl ?_ ?_
       ·intro W hSW; have hc := Hc.out; go_simp
       refine zt 20 44 ?_
       simp only [zA,zB,zC,zD,zF]
       refine zt 21 45 ?_
       simp only [zA,zB,zC,zD,zF]
       refine zt 22 46 ?_
       simp only [zA,zB,zC,zD,zF]
       refine zt 23 47 ?_
       simp only [zA,zB,zC,zD,zF]
       refine zu 24 48 rfl (fun W hSW => by have z : W.cell? ⟨A, 0, none⟩ = some (.string e) := (hSW.cell HAl.out (by simp)).trans Hz0.out; go_simp <;> rfl) ?_
       simp only [zA,zB,zC,zD,zF]
       refine zt 25 49 ?_
       simp only [zA,zB,zC,zD,zF]
       refine zu 26 50 rfl (fun W hSW => by have z : W.cell? ⟨A, 1, none⟩ = some (.int .i64 (a : Nat)) := (hSW.cell HAl.out (by simp)).trans Hz1.out; go_simp <;> rfl) ?_
       simp only [zA,zB,zC,zD,zF]
       refine zt 28 52 ?_
       simp only [zA,zB,zC,zD,zF]
       refine zu 29 53 rfl (fun W hSW => by have z : W.cell? ⟨A, 2, none⟩ = some (.int .i64 (n : Nat)) := (hSW.cell HAl.out (by simp)).trans Hz2.out; go_simp <;> rfl) ?_
       simp only [zA,zB,zC,zD,zF]
       refine zQ 27 fun KK hKK => ?_
       go_simp
       refine (HNx.out wa1 hHeld).mono ?_
       rintro _ wa2 ⟨rfl, aX⟩
       have hHx := hHeld.trans aX
       try dsimp only
       refine hKK.out _ _ hHx (fun hHeld => ?_)
       clear hKK KK
       try simp only [zA,zB,zC,zD,zF]
       refine tk 30 54 (.bool true) rfl ?_ ?_
       ·intro W hSW; have hx := Hx.out; go_simp
       refine zt 31 55 ?_
       simp only [zA,zB,zC,zD,zF]
       refine wpAnyH_done (by kernel_rfl) ?_ _
       have HAn := hid hHeld
       clear hHeld
       go_wp2_with fail
       go_meet
       exact ⟨by rw [Hdv.out], HAn.out⟩
     ·have Hc : Hid (((ny : Int) == (n : Int)) = false) := hid (by simp only [beq_eq_false_iff_ne]; omega)
      have Hdv : Hid (dv = false) := hid (by rw [HdvE.out, beq_eq_false_iff_ne.2 hc, decide_eq_false hb]; rfl)
      clear hb hc HdvE
      refine wp_region_held_drew (S := fun W => Apart [] w5 W) (by kernel_rfl) (Apart.refl [] w5).drew fun hHeld => ?_
      generalize w5.drew = wd at *
      refine zt 0 24 ?_
      simp only [zA,zB,zC,zD,zF]
      refine zu 1 25 rfl (fun W hSW => by have z : W.cell? ⟨A, 2, none⟩ = some (.int .i64 (n : Nat)) := (hSW.cell HAl.out (by simp)).trans Hz2.out; go_simp <;> rfl) ?_
      simp only [zA,zB,zC,zD,zF]
      refine zt 2 26 ?_
      simp only [zA,zB,zC,zD,zF]
      refine zt 3 27 ?_
      simp only [zA,zB,zC,zD,zF]
      refine zu 4 28 rfl (fun W hSW => by have z : W.cell? ⟨A, 1, none⟩ = some (.int .i64 (a : Nat)) := (hSW.cell HAl.out (by simp)).trans Hz1.out; go_simp <;> rfl) ?_
      simp only [zA,zB,zC,zD,zF]
      refine zt 5 29 ?_
      simp only [zA,zB,zC,zD,zF]
      refine zt 6 30 ?_
      simp only [zA,zB,zC,zD,zF]
      refine tk 7 31 (.pointer (some ⟨Q, 17 + a, none⟩)) rfl ?_ ?_
      ·intro W hSW; have h8 := Hi8.out; go_simp
      refine zu 8 32 rfl (fun W hSW => by have z : W.cell? ⟨Q, 17 + a, none⟩ = some (.int .i64 m) := (hSW.cell HQl.out (by simp)).trans HQc.out; go_simp <;> rfl) ?_
      simp only [zA,zB,zC,zD,zF]
      refine tk 9 33 (.bool false) rfl ?_ ?_
      ·intro W hSW; have hb := Hb.out; go_simp
      refine zt 10 34 ?_
      simp only [zA,zB,zC,zD,zF]
      refine zt 11 35 ?_
      simp only [zA,zB,zC,zD,zF]
      refine zt 12 36 ?_
      simp only [zA,zB,zC,zD,zF]
      refine zu 13 37 rfl (fun W hSW => by have z : W.cell? ⟨A, 0, none⟩ = some (.string e) := (hSW.cell HAl.out (by simp)).trans Hz0.out; go_simp <;> rfl) ?_
      simp only [zA,zB,zC,zD,zF]
      refine zt 14 38 ?_
      simp only [zA,zB,zC,zD,zF]
      refine zu 15 39 rfl (fun W hSW => by have z : W.cell? ⟨A, 1, none⟩ = some (.int .i64 (a : Nat)) := (hSW.cell HAl.out (by simp)).trans Hz1.out; go_simp <;> rfl) ?_
      simp only [zA,zB,zC,zD,zF]
      refine zt 17 41 ?_
      simp only [zA,zB,zC,zD,zF]
      refine zu 18 42 rfl (fun W hSW => by have z : W.cell? ⟨A, 2, none⟩ = some (.int .i64 (n : Nat)) := (hSW.cell HAl.out (by simp)).trans Hz2.out; go_simp <;> rfl) ?_
      simp only [zA,zB,zC,zD,zF]
      refine zQ 16 fun KK hKK => ?_
      go_simp
      refine (HNy.out wd hHeld).mono ?_
      rintro _ wa1 ⟨rfl, aX⟩
      have hHx := hHeld.trans aX
      try dsimp only
      refine hKK.out _ _ hHx (fun hHeld => ?_)
      clear hKK KK
      try simp only [zA,zB,zC,zD,zF]
      refine tk 19 43 (.bool false) rfl ?_ ?_
      ·intro W hSW; have hc := Hc.out; go_simp
      refine zt 20 44 ?_
      simp only [zA,zB,zC,zD,zF]
      refine zt 21 45 ?_
      simp only [zA,zB,zC,zD,zF]
      refine tu 22 46 rfl ?_
      simp only [zA,zB,zC,zD,zF]
      refine tu 23 47 rfl ?_
      simp only [zA,zB,zC,zD,zF]
      refine tu 24 48 rfl ?_
      simp only [zA,zB,zC,zD,zF]
      refine tu 25 49 rfl ?_
      simp only [zA,zB,zC,zD,zF]
      refine tu 26 50 rfl ?_
      simp only [zA,zB,zC,zD,zF]
      refine tu 28 52 rfl ?_
      simp only [zA,zB,zC,zD,zF]
      refine tu 29 53 rfl ?_
      simp only [zA,zB,zC,zD,zF]
      refine wpAnyH_pass 27 (o := ⟨some 51, _, _, _, _, _⟩) (by kernel_rfl) rfl (by kernel_rfl) (by assumption) ?_
      simp only [zA,zB,zC,zD,zF]
      refine tu 30 54 rfl ?_
      simp only [zA,zB,zC,zD,zF]
      refine zt 31 55 ?_
      simp only [zA,zB,zC,zD,zF]
      refine wpAnyH_done (by kernel_rfl) ?_ _
      have HAn := hid hHeld
      clear hHeld
      go_wp2_with fail
      go_meet
      exact ⟨by rw [Hdv.out], HAn.out⟩
   obtain ⟨rfl, apc⟩ := hcut
   have HA6 := hid apc
   clear apc
   generalize wc = w6 at *
   have HN6 := hid (HN.out.kept (HA5.out.trans HA6.out))
   have HB6 := hid (keep0 (HA5.out.trans HA6.out) HX.out.dv.blk)
   have HBA6 := hid (keep0 HA6.out HB5.out)
   cases hdv : dv
   case false =>
    have Hnxt : Hid ((r.ts.take (q + 1)).foldl (stS o.c o.ts) xr.ts = xs) := hid (by
     rw [Htk.out]
     unfold stS
     rw [if_neg]
     intro h1
     have h2 := HdvE.out
     rw [hdv] at h2
     have h3 : stP o.c o.ts xs ⟨e, a, n⟩ = ((decide (m < (n : Int)) || ny == n) && !(nx == n)) := by rw [Hm.out, Hny.out, Hnx.out]; rfl
     rw [h1] at h3
     rw [← h3] at h2
     exact Bool.noConfusion h2)
    have HX6 := hid (HX.out.kept0 (HA5.out.trans HA6.out))
    go_wp2_with fail
    exact ⟨⟨q + 1, sx, by go_num, by omega, by rw [Hnxt.out]; exact HX6, by rw [Hnxt.out]; exact HN6⟩, by simp [natV]; omega⟩
   case true =>
    have Hnxt : Hid ((r.ts.take (q + 1)).foldl (stS o.c o.ts) xr.ts = xs ++ [⟨e, a, n⟩]) := hid (by
     rw [Htk.out]
     unfold stS
     rw [if_pos]
     have h2 := HdvE.out
     rw [hdv] at h2
     have h3 : stP o.c o.ts xs ⟨e, a, n⟩ = ((decide (m < (n : Int)) || ny == n) && !(nx == n)) := by rw [Hm.out, Hny.out, Hnx.out]; rfl
     rw [h3, ← h2])
    have Hl5 : Hid (xr.u.length = 8 ∧ xr.d.length = 8 ∧ xr.c.length = 8) := hid ⟨HX.out.dv.lu, HX.out.dv.ld, HX.out.dv.lc⟩
    have Hsxn : Hid (sx.n = xs.length) := hid HX.out.dv.len
    have HAo : Hid (sx.v.ownBlock ≠ some A) := hid (fun h => by
     obtain ⟨cur, q⟩ := own_typ HN.out.own h
     have := lt_of_heap q
     have := HAe.out
     omega)
    obtain ⟨x5, Hx5⟩ : ∃ x : Rv, Hid (x = { xr with ts := xs }) := ⟨_, hid rfl⟩
    have HB6' : Hid (w6.heap[X]? = some (.cells (dCells x5 sx).toArray 63 (0, 0))) := hid (by rw [Hx5.out]; exact HB6.out)
    have Hl7 : Hid (x5.u.length = 8 ∧ x5.d.length = 8 ∧ x5.c.length = 8) := hid (by rw [Hx5.out]; exact Hl5.out)
    clear HB6 HX HN HX5 HQ5 HA5 HA6 Hz0 Hz1 Hz2 HQc HNx HNy HdvE HB5 HPt HQt
    have HB6 := HB6'
    clear HB6'
    go_upto_region 5 with fail
    have HBd := hid (keep0 ((Apart.refl [] w6).drew) HB6.out)
    have HNd := hid (HN6.out.kept ((Apart.refl [] w6).drew))
    have HAd := hid (keep0 ((Apart.refl [] w6).drew) HBA6.out)
    have hAd : Sxa x5 X A (tgC ⟨e, a, n⟩) w6.drew := ⟨⟨sx, HBd.out⟩, HAd.out⟩
    refine wp_region_held_drew (S := Sxa x5 X A (tgC ⟨e, a, n⟩)) (by kernel_rfl) hAd (fun hHeld => ?_)
    generalize w6.drew = wd at *
    clear hAd
    obtain ⟨s9, w9, hrun, n9, l9, a9⟩ := app_tag HNd.out ⟨e, a, n⟩ (by have h1 := Hsxn.out; have h2 : xs.length ≤ 18000 := Hxl.out; omega)
    have HR := hid hrun
    have HB9 : Hid (w9.heap[X]? = some (.cells (dCells x5 sx).toArray 63 (0, 0))) := hid ((a9.block X (lt_of_heap HBd.out) (fun hm => by
     obtain ⟨cur, q⟩ := own_typ HNd.out.own (k := X) (by simpa using hm)
     rw [HBd.out] at q
     simp at q)).trans HBd.out)
    have HA9 : Hid (w9.heap[A]? = some (.cells (tgC ⟨e, a, n⟩).toArray 96 (0, 0))) := hid ((a9.block A (lt_of_heap HAd.out) (fun hm => HAo.out (by simpa using hm))).trans HAd.out)
    have HDn := hid (Dk.put2 HB9.out Hl7.out n9 (by rw [l9, Hsxn.out, List.length_append]; rfl))
    have HNn : Hid (Nw wB (w9.setCell ⟨X, 25, none⟩ (.slice s9.p s9.n s9.c)) 96 3 s9 (tgL (xs ++ [⟨e, a, n⟩]))) := hid ⟨own_apart n9.own ((Apart.refl [X] w9).setCell (.inl (by simp)) _) (fun k hk hm => by
     obtain ⟨cur, q⟩ := own_typ n9.own hk
     rw [List.mem_singleton.1 hm, HB9.out] at q
     simp at q), n9.new, n9.ap.setCell (.inr HXn.out) _⟩
    have HAn : Hid ((w9.setCell ⟨X, 25, none⟩ (.slice s9.p s9.n s9.c)).heap[A]? = some (.cells (tgC ⟨e, a, n⟩).toArray 96 (0, 0))) := hid ((((Apart.refl [X] w9).setCell (.inl (by simp)) _).block A (lt_of_heap HA9.out) (fun hm => by
     have q := HA9.out
     rw [List.mem_singleton.1 hm, HB9.out] at q
     simp at q)).trans HA9.out)
    clear hrun n9 l9 a9
    refine zt 0 56 ?_
    simp only [zA,zB,zC,zD,zF]
    refine zt 1 57 ?_
    simp only [zA,zB,zC,zD,zF]
    refine zt 2 58 ?_
    simp only [zA,zB,zC,zD,zF]
    refine zt 3 59 ?_
    simp only [zA,zB,zC,zD,zF]
    refine tk 5 61 (.agg #[.string e, .int .i64 (a : Nat), .int .i64 (n : Nat)]) rfl ?_ ?_
    ·intro W hSW; exact ex_load96 _ rfl A 0 (tgC ⟨e, a, n⟩) rfl (rg96 hSW.2) rfl
    simp only [zA,zB,zC,zD,zF]
    have HBa := hid (keep0 ((Apart.refl [] wd).alloc (.cells #[.string e, .int .i64 (a : Int), .int .i64 (n : Int)] 96)) HBd.out)
    have HAa := hid (keep0 ((Apart.refl [] wd).alloc (.cells #[.string e, .int .i64 (a : Int), .int .i64 (n : Int)] 96)) HAd.out)
    refine wpAnyH_ready (rs := [4, 6]) (by kernel_rfl) (by simp) ?_
    refine AllReadyH.cons rfl (fun KK hKK => ?_) (AllReadyH.cons rfl (fun KK hKK => ?_) AllReadyH.nil)
    ·
     have z := cell25 HBd.out Hl7.out
     go_simp
     refine hKK.out _ _ (⟨⟨sx, HBd.out⟩, HAd.out⟩) (fun hHeld => ?_)
     clear hKK KK z
     try simp only [zA,zB,zC,zD,zF]
     refine zQ 6 fun KK hKK => ?_
     go_simp
     refine hKK.out _ _ (⟨⟨sx, HBa.out⟩, HAa.out⟩) (fun hHeld => ?_)
     clear hKK KK
     try simp only [zA,zB,zC,zD,zF]
     refine zQ 7 fun KK hKK => ?_
     refine step_app2 rfl _ _ 61 61 rfl _ _ rfl rfl (.slice s9.p s9.n s9.c) w9 HR.out ?_
     refine hKK.out _ _ (⟨⟨sx, HB9.out⟩, HA9.out⟩) (fun hHeld => ?_)
     clear hKK KK HR
     try simp only [zA,zB,zC,zD,zF]
     refine zt 8 64 ?_
     simp only [zA,zB,zC,zD,zF]
     refine zt 9 65 ?_
     simp only [zA,zB,zC,zD,zF]
     refine zQ 10 fun KK hKK => ?_
     have z := cell25 HB9.out Hl7.out
     have f : w9.frozen? ⟨X, 25, none⟩ = false := frozen_of_row _ _ _ _ _ HB9.out
     go_simp
     refine hKK.out _ _ (⟨⟨s9, HDn.out.dv.blk⟩, HAn.out⟩) (fun hHeld => ?_)
     clear hKK KK z f
     try simp only [zA,zB,zC,zD,zF]
     refine wpAnyH_done (by kernel_rfl) ?_ _
     have HX9 : Hid (Dk (w9.setCell ⟨X, 25, none⟩ (.slice s9.p s9.n s9.c)) X { xr with ts := xs ++ [⟨e, a, n⟩] } s9) := hid (by have k9 := HDn.out; rw [Hx5.out] at k9; exact k9)
     go_wp2_with fail
     exact ⟨⟨q + 1, s9, by go_num, by omega, by rw [Hnxt.out]; exact HX9, by rw [Hnxt.out]; exact HNn⟩, by simp [natV]; omega⟩
    ·
     go_simp
     refine hKK.out _ _ (⟨⟨sx, HBa.out⟩, HAa.out⟩) (fun hHeld => ?_)
     clear hKK KK
     try simp only [zA,zB,zC,zD,zF]
     refine zQ 4 fun KK hKK => ?_
     have z := cell25 HBa.out Hl7.out
     go_simp
     refine hKK.out _ _ (⟨⟨sx, HBa.out⟩, HAa.out⟩) (fun hHeld => ?_)
     clear hKK KK z
     try simp only [zA,zB,zC,zD,zF]
     refine zQ 7 fun KK hKK => ?_
     refine step_app2 rfl _ _ 61 61 rfl _ _ rfl rfl (.slice s9.p s9.n s9.c) w9 HR.out ?_
     refine hKK.out _ _ (⟨⟨sx, HB9.out⟩, HA9.out⟩) (fun hHeld => ?_)
     clear hKK KK HR
     try simp only [zA,zB,zC,zD,zF]
     refine zt 8 64 ?_
     simp only [zA,zB,zC,zD,zF]
     refine zt 9 65 ?_
     simp only [zA,zB,zC,zD,zF]
     refine zQ 10 fun KK hKK => ?_
     have z := cell25 HB9.out Hl7.out
     have f : w9.frozen? ⟨X, 25, none⟩ = false := frozen_of_row _ _ _ _ _ HB9.out
     go_simp
     refine hKK.out _ _ (⟨⟨s9, HDn.out.dv.blk⟩, HAn.out⟩) (fun hHeld => ?_)
     clear hKK KK z f
     try simp only [zA,zB,zC,zD,zF]
     refine wpAnyH_done (by kernel_rfl) ?_ _
     have HX9 : Hid (Dk (w9.setCell ⟨X, 25, none⟩ (.slice s9.p s9.n s9.c)) X { xr with ts := xs ++ [⟨e, a, n⟩] } s9) := hid (by have k9 := HDn.out; rw [Hx5.out] at k9; exact k9)
     go_wp2_with fail
     exact ⟨⟨q + 1, s9, by go_num, by omega, by rw [Hnxt.out]; exact HX9, by rw [Hnxt.out]; exact HNn⟩, by simp [natV]; omega⟩
  ·have hlti : ¬ ((q : Nat) : Int) < ((N : Nat) : Int) := by omega
   have He : Hid (xs = r.ts.foldl (stS o.c o.ts) xr.ts) := hid (by rw [Hxs.out, List.take_of_length_le (by have := HNN.out; omega)])
   go_wp2_with fail
   go_end0
   rw [← He.out]
   exact ⟨rfl, sx, HX.out, HN.out⟩
end Go.Proofs.YtdbeeikjngnnnaaGreat.ty
