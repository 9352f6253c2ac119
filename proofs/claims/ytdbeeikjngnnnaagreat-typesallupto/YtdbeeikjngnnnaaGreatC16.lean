import Derived.Test.YtdbeeikjngnnnaaGreatC12
namespace Go.Proofs.YtdbeeikjngnnnaaGreat.ty
open Go.ChangeShapes Go.WideShapes Go.ChangeAt Go.RowKit
set_option linter.unusedVariables false
set_option linter.unusedSimpArgs false
set_option maxRecDepth 100000
set_option maxHeartbeats 8000000
theorem cright_ok {w : World} (cs : Array Value) : Calls Tryz.prog 104 #[.agg cs] w fun r w' => r = .returned (.bool true) ∧ Apart [] w w' := by
 go_enter Tryz.func104, Tryz.ntmps104
 go_wp2_with fail
 go_ret
 exact ⟨rfl, (Apart.refl _ _).alloc _⟩
theorem within_ok {w : World} {c d : List Int} (hc : c.length = 8) (hd : d.length = 8) : Calls Tryz.prog 100 #[.agg (rv c).toArray, .agg (rv d).toArray] w fun r w' => r = .returned (.bool (gr c d == d)) ∧ Apart [] w w' := by
 have Hc := hid hc
 have Hd := hid hd
 have hr := fun wx => run_eql_row wx (gr_len hc hd) hd
 have hg := fun wx x y => gd_row wx .eql x y (rv (gr c d)).toArray (rv d).toArray
 clear hc hd
 obtain ⟨g, Hg⟩ : ∃ g, Hid (g = gr c d) := ⟨_, hid rfl⟩
 rw [← Hg.out] at hr hg ⊢
 have HC := hid (fun wx => greater_ok (w := wx) (a := c) (b := d) Hc.out Hd.out)
 rw [← Hg.out] at HC
 go_enter Tryz.func100, Tryz.ntmps100
 go_upto_region 1 with fail
 obtain ⟨X, HXX⟩ : ∃ X, Hid (X = w.heap.size) := ⟨_, rfl⟩
 obtain ⟨w1, hw1⟩ : ∃ W, W = w.alloc (.cells (rv c).toArray 99) := ⟨_, rfl⟩
 obtain ⟨Y, HXY⟩ : ∃ X, Hid (X = w1.heap.size) := ⟨_, rfl⟩
 obtain ⟨w2, hw2⟩ : ∃ W, W = w1.alloc (.cells (rv d).toArray 99) := ⟨_, rfl⟩
 have HS1 : Hid (Apart [] w w1) := hid (zM hw1)
 have HS2 : Hid (Apart [] w1 w2) := hid (zM hw2)
 have HBX : Hid (w2.heap[X]? = some (.cells (rv c).toArray 99 (0, 0))) := by unfold Hid; refine keep0 HS2.out ?_; rw [HXX.out, hw1]; exact heap_alloc_new w _
 have HBY : Hid (w2.heap[Y]? = some (.cells (rv d).toArray 99 (0, 0))) := hid (zN HXY.out hw2)
 have heY : X + 1 = Y := by rw [HXY.out, hw1, HXX.out]; exact (Array.size_push _).symm
 rw [← hw1, ← HXX.out, heY, ← hw2]
 clear hw1 hw2 HXX HXY heY
 refine wp_region_held_drew (S := fun W => Apart [] w2 W) (by kernel_rfl) (Apart.refl [] w2).drew fun hHeld => ?_
 generalize w2.drew = wd at *
 refine tk 0 5 (.agg (rv c).toArray) rfl ?_ ?_
 ·intro W hSW; exact ex_load _ rfl X 0 _ rfl (rgR (keep0 hSW HBX.out)) (by rw [rv_len, Hc.out])
 simp only [zA,zB,zC,zD,zF]
 refine tk 1 6 (.agg (rv d).toArray) rfl ?_ ?_
 ·intro W hSW; exact ex_load _ rfl Y 0 _ rfl (rgR (keep0 hSW HBY.out)) (by rw [rv_len, Hd.out])
 simp only [zA,zB,zC,zD,zF]
 refine tk 3 8 (.agg (rv d).toArray) rfl ?_ ?_
 ·intro W hSW; exact ex_load _ rfl Y 0 _ rfl (rgR (keep0 hSW HBY.out)) (by rw [rv_len, Hd.out])
 simp only [zA,zB,zC,zD,zF]
 refine zQ 2 fun KK hKK => ?_
 go_simp
 refine (HC.out _).mono ?_
 rintro _ w3 ⟨rfl, a3⟩
 have hHx := hHeld.trans a3
 try dsimp only
 refine hKK.out _ _ hHx (fun hHeld => ?_)
 clear hKK KK
 try simp only [zA,zB,zC,zD,zF]
 refine zt 4 9 ?_
 refine zt 5 4 ?_
 simp only [zA,zB,zC,zD,zF]
 refine wpAnyH_done (by kernel_rfl) ?_ _
 have HA := hid ((HS1.out.trans HS2.out).trans hHeld)
 clear hHeld
 go_wp2_with fail
 go_ret
 exact ⟨rfl, HA.out⟩
theorem fright_ok {w : World} {c g : List Int} (hc : c.length = 8) (hg : g.length = 8) : Calls Tryz.prog 131 #[.agg (rv (c ++ g)).toArray] w fun r w' => r = .returned (.bool (gr g c == c)) ∧ Apart [] w w' := by
 have Hc := hid hc
 have Hg := hid hg
 have HC := hid (fun wx => within_ok (w := wx) hg hc)
 clear hc hg
 go_enter Tryz.func131, Tryz.ntmps131
 go_upto_region 1 with fail
 obtain ⟨X, HXX⟩ : ∃ X, Hid (X = w.heap.size) := ⟨_, rfl⟩
 obtain ⟨w1, hw1⟩ : ∃ W, W = w.alloc (.cells (rv (c ++ g)).toArray 106) := ⟨_, rfl⟩
 have HS1 : Hid (Apart [] w w1) := hid (zM hw1)
 have HBX : Hid (w1.heap[X]? = some (.cells (rv (c ++ g)).toArray 106 (0, 0))) := hid (zN HXX.out hw1)
 rw [← hw1, ← HXX.out]
 clear hw1 HXX
 go_wp2_with (first
  | refine wpL_val rfl (.agg (rv g).toArray) (ex_load _ rfl X 8 _ rfl (rg8 Hc.out HBX.out) (by rw [rv_len, Hg.out])) ?_
  | refine wpL_val rfl (.agg (rv c).toArray) (ex_load _ rfl X 0 _ rfl (rg0 HBX.out) (by rw [rv_len, Hc.out])) ?_
  | (go_at_call 100; refine (HC.out _).mono ?_; rintro _ w2 ⟨rfl, a2⟩; have HA2 := hid a2; clear a2))
 go_ret
 exact ⟨rfl, HS1.out.trans HA2.out⟩
def rtR (s a : Int) (x : ByteArray) : Bool := isA a && (decide (0 < s) || (decide (s = 0) && decide (a = 0) && decide (x.toList = [])))
theorem gright_ok {w : World} {s a : Int} {x : ByteArray} : Calls Tryz.prog 135 #[.agg (ty.rg s a x)] w fun r w' => r = .returned (.bool (rtR s a x)) ∧ Apart [] w w' := by
 have HC := hid (fun wx => isActor_ok wx a)
 unfold ty.rg
 go_enter Tryz.func135, Tryz.ntmps135
 go_upto_region 1 with fail
 obtain ⟨X, HXX⟩ : ∃ X, Hid (X = w.heap.size) := ⟨_, rfl⟩
 obtain ⟨w1, hw1⟩ : ∃ W, W = w.alloc (.cells #[.int .i64 s, .int .i64 a, .string x] 108) := ⟨_, rfl⟩
 have HS1 : Hid (Apart [] w w1) := hid (zM hw1)
 have HBX : Hid (w1.heap[X]? = some (.cells #[.int .i64 s, .int .i64 a, .string x] 108 (0, 0))) := hid (zN HXX.out hw1)
 rw [← hw1, ← HXX.out]
 clear hw1 HXX
 have z0 : w1.cell? ⟨X, 0, none⟩ = some (.int .i64 s) := zK HBX.out
 have z1 : w1.cell? ⟨X, 1, none⟩ = some (.int .i64 a) := zK HBX.out
 have z2 : w1.cell? ⟨X, 2, none⟩ = some (.string x) := zK HBX.out
 cases ha : isA a
 ·rw [ha] at HC
  go_wp2_with (go_at_call 106; refine (HC.out _).mono ?_; rintro _ _ ⟨rfl, rfl⟩)
  go_ret
  exact ⟨by simp [rtR, ha], HS1.out⟩
 ·rw [ha] at HC
  have e : rtR s a x = (decide (0 < s) || (decide (s = 0) && decide (a = 0) && decide (x.toList = []))) := by simp [rtR, ha]
  have He := hid e
  clear e
  by_cases hs : s > 0
  ·go_wp2_with (go_at_call 106; refine (HC.out _).mono ?_; rintro _ _ ⟨rfl, rfl⟩)
   go_ret
   exact ⟨by rw [He.out]; simp [hs], HS1.out⟩
  ·go_wp2_with (go_at_call 106; refine (HC.out _).mono ?_; rintro _ _ ⟨rfl, rfl⟩)
   all_goals
    (go_ret
     refine ⟨?_, HS1.out⟩
     rw [He.out]
     first | (simp [*]; done) | trace_state)
def okX (c : List Int) (x : En) : Bool := isE x.e.size && (!(x.t == zr) && gr x.t c == c)
def okP (es : List En) (i : Nat) : Bool := match es[i]?, es[i - 1]? with
 | some x, some y => i == 0 || bl y.e x.e
 | _, _ => true
def okE (c : List Int) (es : List En) (i : Nat) : Bool := match es[i]? with
 | some x => okX c x && okP es i
 | none => true
def srR (c : List Int) (es : List En) : Bool := (List.range es.length).all (okE c es)
theorem bl_less (a b : ByteArray) : Op.bytesLess a.toList b.toList = bl a b := by
 rw [bytesLess_eq, Lib.toList_data, Lib.toList_data]
 rfl
theorem srR_false {c : List Int} {es : List En} {i : Nat} (hi : i < es.length) (h : okE c es i = false) : srR c es = false := by
 unfold srR
 rw [List.all_eq_false]
 exact ⟨i, List.mem_range.2 hi, by rw [h]; simp⟩
theorem srR_true {c : List Int} {es : List En} (h : ∀ i, i < es.length → okE c es i = true) : srR c es = true := by
 unfold srR
 rw [List.all_eq_true]
 exact fun i hi => h i (List.mem_range.1 hi)
theorem sright_ok {w : World} {c : List Int} {s : Sl} {es : List En} (hc : c.length = 8) (h : Es w s es) (hn : es.length ≤ 1000000) : Calls Tryz.prog 116 #[.agg (sv c s)] w fun r w' => r = .returned (.bool (srR c es)) ∧ Apart [] w w' := by
 have HE := hid h
 have Hc := hid hc
 have Hn := hid hn
 clear h hc hn
 have HA := hid (Apart.refl [] w)
 obtain ⟨rr, Hrr⟩ : ∃ r, Hid (r = srR c es) := ⟨_, hid rfl⟩
 rw [← Hrr.out]
 go_enter Tryz.func116, Tryz.ntmps116
 go_upto_region 1 with fail
 obtain ⟨X, HXX⟩ : ∃ X, Hid (X = w.heap.size) := ⟨_, rfl⟩
 obtain ⟨w1, hw1⟩ : ∃ W, W = w.alloc (.cells (sv c s) 104) := ⟨_, rfl⟩
 have HSw1 : Hid (Apart [] w w1) := hid (zM hw1)
 have HBX : Hid (w1.heap[X]? = some (.cells (sv c s) 104 (0, 0))) := hid (zN HXX.out hw1)
 rw [← hw1, ← HXX.out]
 clear hw1 HXX
 have z : w1.cell? ⟨X, 8, none⟩ = some (.slice s.p s.n s.c) := sv_cell Hc.out HBX.out
 obtain ⟨N, HN⟩ : ∃ N, Hid (N = es.length) := ⟨_, hid rfl⟩
 have hsn : s.n = N := by rw [HN.out]; exact HE.out.len
 have hN6 : N ≤ 1000000 := by rw [HN.out]; exact Hn.out
 rw [hsn] at z
 go_wp2_with fail
 clear z
 go_loopw [8] (fun v wt => ∃ i : Nat, v = .int .i64 (i : Nat) ∧ i ≤ N ∧ Hid (Apart [] w1 wt) ∧ Hid (∀ j, j < i → okE c es j = true)) (fun v _ => N - (intOf v).toNat)
 case atStart => exact ⟨0, rfl, Nat.zero_le _, hid (Apart.refl _ _), hid (fun j hj => absurd hj (by omega))⟩
 case round =>
  obtain ⟨i, rfl, hi, HS, HO⟩ := hrel
  generalize wr = wt at *
  by_cases hlt : i < N
  ·have hlti : ((i : Nat) : Int) < ((N : Nat) : Int) := by omega
   have Hil : Hid (i < es.length) := hid (by rw [← HN.out]; exact hlt)
   obtain ⟨P, o, hp, hr, hP⟩ := (HE.out.kept0 (HSw1.out.trans HS.out)).at i Hil.out
   have HRg := hid hr
   have HX : Hid ((es[i]'Hil.out).vs.length = 9) := hid (En.vs_len (HE.out.row _ (List.getElem_mem _)))
   have Hxt : Hid ((es[i]'Hil.out).t.length = 8) := hid (HE.out.row _ (List.getElem_mem _))
   obtain ⟨y, Hy⟩ : ∃ y, Hid (y = es[i]'Hil.out) := ⟨_, hid rfl⟩
   have Hei : Hid (es[i]? = some y) := hid (by rw [List.getElem?_eq_getElem Hil.out, ← Hy.out])
   rw [← Hy.out] at HRg HX Hxt
   have Hsp := hid hp
   rw [hp]
   clear hr hP hp
   have HBXt := hid (keep0 HS.out HBX.out)
   go_upto_region 4 with (first
    | (refine wpL_val rfl (.agg y.vs.toArray) (ex_load106 _ rfl P (o + i * 9) _ rfl HRg.out HX.out) ?_)
    | (refine wpList_store_row rfl 141 _ _ rfl wt.heap.size y.vs.toArray rfl rfl 141 _ (heap_alloc_new wt _) (by rw [size106]; simp [HX.out]) (by simp [HX.out]) (all_oneCell_toArray (by intro u hu; exact evs_one (es := [y]) u (by simpa [evs] using hu))) ?_
       have HB5 := hid (put_new (w := wt) (z := zE) (cs := y.vs.toArray) (T := 141))
       have HS5 := hid (put_apart (w := wt) (z := zE) (cs := y.vs.toArray) (T := 141))
       obtain ⟨Z, HZ⟩ : ∃ X, X = wt.heap.size := ⟨_, rfl⟩
       unfold zE at HB5 HS5
       rw [← HZ] at HB5 HS5 ⊢
       generalize (wt.alloc (.cells #[.string ⟨#[]⟩, .int .i64 0, .int .i64 0, .int .i64 0, .int .i64 0, .int .i64 0, .int .i64 0, .int .i64 0, .int .i64 0] 141)).setRow Z y.vs.toArray = w5 at *
       clear HZ))
   have z5 : w5.cell? ⟨Z, 0, none⟩ = some (.string y.e) := zK HB5.out
   have HBX5 := hid (keep0 HS5.out HBXt.out)
   have HCe := hid (fun wx => isElement_ok wx y.e.size)
   have HCw := hid (within_ok (w := w5) Hxt.out Hc.out)
   have hr1 := fun wx => run_eql_row wx Hxt.out (show zr.length = 8 from rfl)
   have hg1 := fun wx a b => gd_row wx .eql a b (rv y.t).toArray (rv zr).toArray
   have HA5 : Hid (Apart [] w w5) := hid ((HSw1.out.trans HS.out).trans HS5.out)
   cases hE : isE y.e.size
   ·have HF : Hid (rr = false) := hid (by rw [Hrr.out]; exact srR_false Hil.out (by unfold okE; rw [Hei.out]; simp [okX, hE]))
    rw [hE] at HCe
    go_wp2_with (go_at_call 118; refine (HCe.out _).mono ?_; rintro _ _ ⟨rfl, rfl⟩)
    go_ret
    exact ⟨by rw [HF.out]; rfl, HA5.out⟩
   ·rw [hE] at HCe
    cases hz : (y.t == zr)
    ·cases hw : (gr y.t c == c)
     ·have HF : Hid (rr = false) := hid (by rw [Hrr.out]; exact srR_false Hil.out (by unfold okE; rw [Hei.out]; simp [okX, hE, hz, hw]))
      rw [hw] at HCw
      rw [hz] at hr1
      go_wp2_with (first
       | (go_at_call 118; refine (HCe.out _).mono ?_; rintro _ _ ⟨rfl, rfl⟩)
       | refine wpL_valG rfl (.agg (rv y.t).toArray) (ex_load _ rfl Z 1 _ rfl (rgE HB5.out) (by rw [rv_len, Hxt.out])) ?_
       | refine wpL_valG rfl (.agg (rv zr).toArray) (ex_build86 rfl) ?_
       | refine wpL_valG rfl (.agg (rv c).toArray) (ex_load _ rfl X 0 _ rfl (sv_row HBX5.out) (by rw [rv_len, Hc.out])) ?_
       | (go_at_call 100; refine HCw.out.mono ?_; rintro _ w6 ⟨rfl, a6⟩; have HA6 := hid a6; clear a6))
      go_ret
      exact ⟨by rw [HF.out]; rfl, HA5.out.trans HA6.out⟩
     ·rw [hw] at HCw
      rw [hz] at hr1
      have HokX : Hid (okX c y = true) := hid (by simp [okX, hE, hz, hw])
      go_upto_region 6 with (first
       | (go_at_call 118; refine (HCe.out _).mono ?_; rintro _ _ ⟨rfl, rfl⟩)
       | refine wpL_valG rfl (.agg (rv y.t).toArray) (ex_load _ rfl Z 1 _ rfl (rgE HB5.out) (by rw [rv_len, Hxt.out])) ?_
       | refine wpL_valG rfl (.agg (rv zr).toArray) (ex_build86 rfl) ?_
       | refine wpL_valG rfl (.agg (rv c).toArray) (ex_load _ rfl X 0 _ rfl (sv_row HBX5.out) (by rw [rv_len, Hc.out])) ?_
       | (go_at_call 100; refine HCw.out.mono ?_; rintro _ w6 ⟨rfl, a6⟩; have HA6 := hid a6; clear a6))
      have HBZ6 := hid (keep0 HA6.out HB5.out)
      have HBX6 := hid (keep0 HA6.out HBX5.out)
      have HA16 : Hid (Apart [] w1 w6) := hid ((HS.out.trans HS5.out).trans HA6.out)
      clear HB5 HBX5 HCe HCw hr1 hg1 z5
      by_cases hi0 : i = 0
      ·subst hi0
       refine wp_region_held_drew (S := fun W => Apart [] w6 W) (by kernel_rfl) (Apart.refl [] w6).drew fun hHeld => ?_
       generalize w6.drew = wd at *
       refine zt 0 32 ?_
       refine zt 1 33 ?_
       refine zt 2 34 ?_
       simp only [zA,zB,zC,zD,zF]
       refine tu 3 35 rfl ?_
       simp only [zA,zB,zC,zD,zF]
       refine tu 4 36 rfl ?_
       simp only [zA,zB,zC,zD,zF]
       refine tu 5 37 rfl ?_
       simp only [zA,zB,zC,zD,zF]
       refine tu 6 38 rfl ?_
       simp only [zA,zB,zC,zD,zF]
       refine tu 7 39 rfl ?_
       simp only [zA,zB,zC,zD,zF]
       refine tu 8 40 rfl ?_
       simp only [zA,zB,zC,zD,zF]
       refine tu 9 41 rfl ?_
       simp only [zA,zB,zC,zD,zF]
       refine tu 10 42 rfl ?_
       simp only [zA,zB,zC,zD,zF]
       refine tu 11 43 rfl ?_
       simp only [zA,zB,zC,zD,zF]
       refine tu 12 44 rfl ?_
       refine zt 13 45 ?_
       simp only [zA,zB,zC,zD,zF]
       refine wpAnyH_done (by kernel_rfl) ?_ _
       have HS7 := hid hHeld
       clear hHeld
       go_wp2_with fail
       refine ⟨⟨0 + 1, by go_num, by omega, hid (HA16.out.trans HS7.out), hid (fun j hj => ?_)⟩, by simp [intOf]; omega⟩
       obtain rfl : j = 0 := by omega
       unfold okE
       rw [Hei.out]
       simp only [HokX.out, Bool.true_and]
       unfold okP
       rw [Hei.out]
       cases es[0 - 1]? <;> simp
      ·obtain ⟨m, Hm⟩ : ∃ m, Hid (i = m + 1) := ⟨i - 1, hid (by omega)⟩
       have hi1 : ((i : Nat) : Int) > 0 := by omega
       have hms : ((i : Nat) : Int) - 1 = ((m : Nat) : Int) := by have := Hm.out; omega
       have Hml : Hid (m < es.length) := hid (by have := Hm.out; have := Hil.out; omega)
       have hmN : ((m : Nat) : Int) < ((N : Nat) : Int) := by have := Hm.out; omega
       obtain ⟨P', o', hp', hr', hP'⟩ := (HE.out.kept0 (HSw1.out.trans HA16.out)).at m Hml.out
       obtain ⟨y', Hy'⟩ : ∃ y, Hid (y = es[m]'Hml.out) := ⟨_, hid rfl⟩
       have Hem : Hid (es[m]? = some y') := hid (by rw [List.getElem?_eq_getElem Hml.out, ← Hy'.out])
       rw [← Hy'.out] at hr'
       rw [Hsp.out] at hp'
       simp only [Option.some.injEq, Addr.mk.injEq, and_true] at hp'
       obtain ⟨rfl, rfl⟩ := hp'
       have Hz' : Hid (w6.cell? ⟨P, o + m * 9, none⟩ = some (.string y'.e)) := hid (by have := hr' 0 _ rfl; rwa [Nat.add_zero] at this)
       have HP' := hid hP'
       clear hr' hP'
       have HokP : Hid (okP es i = bl y'.e y.e) := hid (by unfold okP; rw [Hei.out, Hm.out, Nat.add_sub_cancel, Hem.out]; simp)
       cases hbl : bl y'.e y.e
       ·have hbe : Op.bytesLess y'.e.toList y.e.toList = false := by rw [bl_less]; exact hbl
        refine wp_region_held_drew (S := fun W => Apart [] w6 W) (by kernel_rfl) (Apart.refl [] w6).drew fun hHeld => ?_
        generalize w6.drew = wd at *
        refine zt 0 32 ?_
        simp only [zA,zB,zC,zD,zF]
        refine tk 1 33 (.bool true) rfl ?_ ?_
        ·intro W hSW; go_simp; omega
        refine zt 2 34 ?_
        refine zt 3 35 ?_
        simp only [zA,zB,zC,zD,zF]
        refine tk 4 36 (.slice (some ⟨P, o, none⟩) N s.c) rfl ?_ ?_
        ·intro W hSW; have z := sv_cell Hc.out (keep0 hSW HBX6.out); rw [Hsp.out, hsn] at z; go_simp
        refine zt 5 37 ?_
        simp only [zA,zB,zC,zD,zF]
        refine tk 6 38 (.int .i64 (m : Nat)) rfl ?_ ?_
        ·intro W hSW; go_simp; have e64 : IntKind.i64.wrap ((m : Nat) : Int) = ((m : Nat) : Int) := IntWalk.i64_in _ (by omega); exact e64
        refine zt 7 39 ?_
        refine zt 8 40 ?_
        simp only [zA,zB,zC,zD,zF]
        refine tk 9 41 (.string y'.e) rfl ?_ ?_
        ·intro W hSW; have z := (hSW.cell (p := ⟨P, o + m * 9, none⟩) HP'.out (by simp)).trans Hz'.out; go_simp
        refine zt 10 42 ?_
        refine zu 11 43 rfl (fun W hSW => by have z : W.cell? ⟨Z, 0, none⟩ = some (.string y.e) := (by rw [cell_of_row _ _ _ _ _ _ (keep0 hSW HBZ6.out)]; rfl); go_simp <;> rfl) ?_
        refine zt 12 44 ?_
        refine zt 13 45 ?_
        simp only [zA,zB,zC,zD,zF]
        refine wpAnyH_done (by kernel_rfl) ?_ _
        have HS7 := hid hHeld
        clear hHeld
        have HF : Hid (rr = false) := hid (by rw [Hrr.out]; exact srR_false Hil.out (by unfold okE; rw [Hei.out]; simp [HokP.out, hbl]))
        go_wp2_with fail
        go_ret
        exact ⟨by rw [HF.out]; rfl, (HA5.out.trans HA6.out).trans HS7.out⟩
       ·have hbe : Op.bytesLess y'.e.toList y.e.toList = true := by rw [bl_less]; exact hbl
        refine wp_region_held_drew (S := fun W => Apart [] w6 W) (by kernel_rfl) (Apart.refl [] w6).drew fun hHeld => ?_
        generalize w6.drew = wd at *
        refine zt 0 32 ?_
        simp only [zA,zB,zC,zD,zF]
        refine tk 1 33 (.bool true) rfl ?_ ?_
        ·intro W hSW; go_simp; omega
        refine zt 2 34 ?_
        refine zt 3 35 ?_
        simp only [zA,zB,zC,zD,zF]
        refine tk 4 36 (.slice (some ⟨P, o, none⟩) N s.c) rfl ?_ ?_
        ·intro W hSW; have z := sv_cell Hc.out (keep0 hSW HBX6.out); rw [Hsp.out, hsn] at z; go_simp
        refine zt 5 37 ?_
        simp only [zA,zB,zC,zD,zF]
        refine tk 6 38 (.int .i64 (m : Nat)) rfl ?_ ?_
        ·intro W hSW; go_simp; have e64 : IntKind.i64.wrap ((m : Nat) : Int) = ((m : Nat) : Int) := IntWalk.i64_in _ (by omega); exact e64
        refine zt 7 39 ?_
        refine zt 8 40 ?_
        simp only [zA,zB,zC,zD,zF]
        refine tk 9 41 (.string y'.e) rfl ?_ ?_
        ·intro W hSW; have z := (hSW.cell (p := ⟨P, o + m * 9, none⟩) HP'.out (by simp)).trans Hz'.out; go_simp
        refine zt 10 42 ?_
        refine zu 11 43 rfl (fun W hSW => by have z : W.cell? ⟨Z, 0, none⟩ = some (.string y.e) := (by rw [cell_of_row _ _ _ _ _ _ (keep0 hSW HBZ6.out)]; rfl); go_simp <;> rfl) ?_
        refine zt 12 44 ?_
        refine zt 13 45 ?_
        simp only [zA,zB,zC,zD,zF]
        refine wpAnyH_done (by kernel_rfl) ?_ _
        have HS7 := hid hHeld
        clear hHeld
        go_wp2_with fail
        refine ⟨⟨i + 1, by go_num, by omega, hid (HA16.out.trans HS7.out), hid (fun j hj => ?_)⟩, by simp [intOf]; omega⟩
        rcases Nat.lt_or_ge j i with h1 | h1
        ·exact HO.out j h1
        ·obtain rfl : j = i := by omega
         unfold okE
         rw [Hei.out]
         simp [HokX.out, HokP.out, hbl]
    ·have HF : Hid (rr = false) := hid (by rw [Hrr.out]; exact srR_false Hil.out (by unfold okE; rw [Hei.out]; simp [okX, hE, hz]))
     rw [hz] at hr1
     go_wp2_with (first
      | (go_at_call 118; refine (HCe.out _).mono ?_; rintro _ _ ⟨rfl, rfl⟩)
      | refine wpL_valG rfl (.agg (rv y.t).toArray) (ex_load _ rfl Z 1 _ rfl (rgE HB5.out) (by rw [rv_len, Hxt.out])) ?_
      | refine wpL_valG rfl (.agg (rv zr).toArray) (ex_build86 rfl) ?_)
     go_ret
     exact ⟨by rw [HF.out]; rfl, HA5.out⟩
  ·have hlti : ¬ ((i : Nat) : Int) < ((N : Nat) : Int) := by omega
   obtain rfl : N = i := by omega
   have HF : Hid (rr = true) := hid (by rw [Hrr.out]; exact srR_true (fun j hj => HO.out j (by rw [HN.out]; exact hj)))
   go_wp2_with fail
   go_ret
   exact ⟨by rw [HF.out]; rfl, HSw1.out.trans HS.out⟩
end Go.Proofs.YtdbeeikjngnnnaaGreat.ty
