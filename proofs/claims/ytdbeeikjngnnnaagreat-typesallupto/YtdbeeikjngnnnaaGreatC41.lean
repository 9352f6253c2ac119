import Derived.Test.YtdbeeikjngnnnaaGreatC20
namespace Go.Proofs.YtdbeeikjngnnnaaGreat.ty
open Go.ChangeShapes Go.WideShapes Go.ChangeAt Go.RowKit
set_option linter.unusedVariables false
set_option linter.unusedSimpArgs false
set_option maxRecDepth 100000
set_option maxHeartbeats 8000000
def lenOf : Value → Nat
 | .slice _ n _ => n
 | _ => 0
theorem setE_row {W : World} {E : Nat} {l : ByteArray} {g q : List Int} (hq : q.length = 8) (h : W.heap[E]? = some (.cells (⟨l, g⟩ : En).vs.toArray 141 (0, 0))) (hg : g.length = 8 := by rfl) : (W.setCells E 1 (rv q)).heap[E]? = some (.cells (⟨l, q⟩ : En).vs.toArray 141 (0, 0)) := by
 rw [heap_setCells_same _ _ _ _ h]
 obtain ⟨a0, a1, a2, a3, a4, a5, a6, a7, rfl⟩ := list8 hq
 obtain ⟨b0, b1, b2, b3, b4, b5, b6, b7, rfl⟩ := list8 hg
 simp only [En.vs, rv, List.map_cons, List.map_nil, spl, List.setIfInBounds_toArray, List.set_cons_succ, List.set_cons_zero]
theorem En.row {W : World} {E : Nat} {l : ByteArray} {q : List Int} (h : W.heap[E]? = some (.cells (⟨l, q⟩ : En).vs.toArray 141 (0, 0))) : W.rangeAt E 1 (rv q) := by
 intro j v hj
 rw [cell_of_row _ _ _ _ _ _ h]
 simp only [List.getElem?_toArray, En.vs]
 rw [Nat.add_comm 1 j, List.getElem?_cons_succ]
 exact hj
theorem Nw.keepN {w0 w w' : World} {e size : Nat} {s : Sl} {us : List Value} {X : Nat} (h : Nw w0 w e size s us) (a : Apart [X] w w') (ap : Apart [] w0 w') (hX : X ∉ s.v.ownBlock.toList) : Nw w0 w' e size s us :=
 ⟨own_apart h.own a (fun k hk hm => by simp at hm; subst hm; exact hX (by simpa using hk)), h.new, ap⟩
theorem Nw.lt {w0 w : World} {e size : Nat} {s : Sl} {us : List Value} (h : Nw w0 w e size s us) {X : Nat} (hX : w.heap.size ≤ X) : X ∉ s.v.ownBlock.toList := by
 intro hk
 obtain ⟨cur, e1⟩ := own_typ h.own (k := X) (by simpa using hk)
 have := lt_of_heap e1
 omega
theorem ent_len {m : List En} (h : ∀ x ∈ m, x.t.length = 8) (l : ByteArray) : (entE m l).length = 8 := by
 cases m with
 | nil => rfl
 | cons x r =>
  rw [entE_cons]
  split
  ·exact h x (by simp)
  ·rfl
theorem smerged_ok {w : World} {c d : List Int} {s o : Sl} {es fs : List En} (hc : c.length = 8) (hd : d.length = 8) (he : Es w s es) (hf : Es w o fs) (hsn : s.n ≤ 1000) (hon : o.n ≤ 1000) : Calls Tryz.prog 54 #[.agg (sv c s), .agg (sv d o)] w fun r w' => ∃ s', r = .returned (.agg (sv (gr c d) s')) ∧ Es w' s' (mgE c d es fs) ∧ Apart [] w w' := by
 have HEs := hid he
 have HFs := hid hf
 have Hsn := hid hsn
 have Hon := hid hon
 clear he hf hsn hon
 obtain ⟨tot, Htot⟩ : ∃ x, Hid (x = mgE c d es fs) := ⟨_, hid rfl⟩
 rw [← Htot.out]
 have Htotl : Hid (tot.length ≤ 5000) := hid (by have h1 := mgE_len c d es fs; rw [← Htot.out] at h1; have h2 := HEs.out.len; have h3 := HFs.out.len; have h4 := Hsn.out; have h5 := Hon.out; omega)
 have Hc := hid hc
 have Hd := hid hd
 clear hc hd
 have HA := hid (Apart.refl [] w)
 obtain ⟨g, Hg⟩ : ∃ g, Hid (g = gr c d) := ⟨_, hid rfl⟩
 rw [← Hg.out]
 go_enter Tryz.func54, Tryz.ntmps54
 go_upto_region 1 with fail
 obtain ⟨X, HXX⟩ : ∃ X, Hid (X = w.heap.size) := ⟨_, rfl⟩
 obtain ⟨w1, hw1⟩ : ∃ W, W = w.alloc (.cells (sv c s) 104) := ⟨_, rfl⟩
 have HSw1 : Hid (Apart [] w w1) := hid (zM hw1)
 have HBX : Hid (w1.heap[X]? = some (.cells (sv c s) 104 (0, 0))) := hid (zN HXX.out hw1)
 have HLX : Hid (w.heap.size ≤ X) := by unfold Hid; rw [HXX.out]; exact HA.out.size
 replace HA := hid (HA.out.trans HSw1.out)
 obtain ⟨Y, HXY⟩ : ∃ X, Hid (X = w1.heap.size) := ⟨_, rfl⟩
 obtain ⟨w2, hw2⟩ : ∃ W, W = w1.alloc (.cells (sv d o) 104) := ⟨_, rfl⟩
 have HSw2 : Hid (Apart [] w1 w2) := hid (zM hw2)
 have HBY : Hid (w2.heap[Y]? = some (.cells (sv d o) 104 (0, 0))) := hid (zN HXY.out hw2)
 have HLY : Hid (w.heap.size ≤ Y) := by unfold Hid; rw [HXY.out]; exact HA.out.size
 replace HA := hid (HA.out.trans HSw2.out)
 replace HBX := hid (keep0 HSw2.out HBX.out)
 have heY : X + 1 = Y := by rw [HXY.out, hw1, HXX.out]; exact (Array.size_push _).symm
 obtain ⟨Z, HXZ⟩ : ∃ X, Hid (X = w2.heap.size) := ⟨_, rfl⟩
 obtain ⟨w3, hw3⟩ : ∃ W, W = w2.alloc (.cells #[.int .i64 0, .int .i64 0, .int .i64 0, .int .i64 0, .int .i64 0, .int .i64 0, .int .i64 0, .int .i64 0, .slice none 0 0] 104) := ⟨_, rfl⟩
 have HSw3 : Hid (Apart [] w2 w3) := hid (zM hw3)
 have HBZ : Hid (w3.heap[Z]? = some (.cells #[.int .i64 0, .int .i64 0, .int .i64 0, .int .i64 0, .int .i64 0, .int .i64 0, .int .i64 0, .int .i64 0, .slice none 0 0] 104 (0, 0))) := hid (zN HXZ.out hw3)
 have HLZ : Hid (w.heap.size ≤ Z) := by unfold Hid; rw [HXZ.out]; exact HA.out.size
 have HNXZ : Hid (X ≠ Z) := by unfold Hid; have := lt_of_heap HBX.out; rw [HXZ.out]; omega
 have HNYZ : Hid (Y ≠ Z) := by unfold Hid; have := lt_of_heap HBY.out; rw [HXZ.out]; omega
 replace HA := hid (HA.out.trans HSw3.out)
 replace HBX := hid (keep0 HSw3.out HBX.out)
 replace HBY := hid (keep0 HSw3.out HBY.out)
 have heZ : Y + 1 = Z := by rw [HXZ.out, hw2, HXY.out]; exact (Array.size_push _).symm
 rw [← hw1, ← HXX.out, ← hw2, heY, ← hw3, heZ]
 clear hw1 HXX hw2 HXY heY hw3 HXZ heZ HSw1 HSw2 HSw3
 have Hgl : Hid (g.length = 8) := hid (by rw [Hg.out]; exact gr_len Hc.out Hd.out)
 have HC := hid (fun wx => greater_ok (w := wx) (a := c) (b := d) Hc.out Hd.out)
 rw [← Hg.out] at HC
 go_upto_region 2 with (first
  | refine wpL_val rfl (.agg (rv c).toArray) (ex_load _ rfl X 0 _ rfl (sv_row HBX.out) (by rw [rv_len, Hc.out])) ?_
  | refine wpL_val rfl (.agg (rv d).toArray) (ex_load _ rfl Y 0 _ rfl (sv_row HBY.out) (by rw [rv_len, Hd.out])) ?_
  | (go_at_call 65; refine (HC.out _).mono ?_; rintro _ w4 ⟨rfl, a4⟩; have HS4 := hid a4; clear a4)
  | refine wpL_val rfl (.agg (sv g ⟨none, 0, 0⟩)) (ex_build91 _ rfl rfl Hgl.out) ?_
  | (refine wpList_store_row rfl 104 _ _ rfl w4.heap.size (sv g ⟨none, 0, 0⟩) rfl rfl 104 _ (heap_alloc_new w4 _) (by rw [size91, sv_size Hgl.out]) (by rw [sv_size Hgl.out]; rfl) (sv_one _ _) ?_
     have HBU := hid (put_new (w := w4) (z := #[.int .i64 0, .int .i64 0, .int .i64 0, .int .i64 0, .int .i64 0, .int .i64 0, .int .i64 0, .int .i64 0, .slice none 0 0]) (cs := sv g ⟨none, 0, 0⟩) (T := 104))
     have HS5 := hid (put_apart (w := w4) (z := #[.int .i64 0, .int .i64 0, .int .i64 0, .int .i64 0, .int .i64 0, .int .i64 0, .int .i64 0, .int .i64 0, .slice none 0 0]) (cs := sv g ⟨none, 0, 0⟩) (T := 104))
     obtain ⟨U, HU⟩ : ∃ X, X = w4.heap.size := ⟨_, rfl⟩
     have HNU : Hid (X ≠ U ∧ Y ≠ U ∧ Z ≠ U ∧ w.heap.size ≤ U) := hid (by have h1 := lt_of_heap (keep0 HS4.out HBX.out); have h2 := lt_of_heap (keep0 HS4.out HBY.out); have h3 := lt_of_heap (keep0 HS4.out HBZ.out); have h4 := HA.out.size; have h5 := HS4.out.size; omega)
     rw [← HU] at HBU HS5 ⊢
     generalize (w4.alloc (.cells #[.int .i64 0, .int .i64 0, .int .i64 0, .int .i64 0, .int .i64 0, .int .i64 0, .int .i64 0, .int .i64 0, .slice none 0 0] 104)).setRow U (sv g ⟨none, 0, 0⟩) = w5 at *
     clear HU))
 replace HA := hid ((HA.out.trans HS4.out).trans HS5.out)
 replace HBX := hid (keep0 HS5.out (keep0 HS4.out HBX.out))
 replace HBY := hid (keep0 HS5.out (keep0 HS4.out HBY.out))
 replace HBZ := hid (keep0 HS5.out (keep0 HS4.out HBZ.out))
 clear HC HS4 HS5
 refine wp_region_held_drew (S := fun W => Apart [] w5 W) (by kernel_rfl) (Apart.refl [] w5).drew fun hHeld => ?_
 generalize w5.drew = wd at *
 refine zt 0 17 ?_
 simp only [zA,zB,zC,zD,zF]
 refine tk 1 18 (.slice s.p s.n s.c) rfl ?_ ?_
 ·intro W hSW; have z := sv_cell Hc.out (keep0 hSW HBX.out); go_simp
 refine zt 2 19 ?_
 simp only [zA,zB,zC,zD,zF]
 refine tk 3 20 (.slice o.p o.n o.c) rfl ?_ ?_
 ·intro W hSW; have z := sv_cell Hd.out (keep0 hSW HBY.out); go_simp
 refine zt 4 6 ?_
 refine zt 5 7 ?_
 simp only [zA,zB,zC,zD,zF]
 refine wpAnyH_done (by kernel_rfl) ?_ _
 have HS6 := hid hHeld
 replace HA := hid (HA.out.trans HS6.out)
 replace HBX := hid (keep0 HS6.out HBX.out)
 replace HBY := hid (keep0 HS6.out HBY.out)
 replace HBZ := hid (keep0 HS6.out HBZ.out)
 replace HBU := hid (keep0 HS6.out HBU.out)
 clear hHeld HS6
 have HNUX : Hid (X ≠ U) := hid HNU.out.1
 have HNUY : Hid (Y ≠ U) := hid HNU.out.2.1
 have HNUZ : Hid (Z ≠ U) := hid HNU.out.2.2.1
 have HLU : Hid (w.heap.size ≤ U) := hid HNU.out.2.2.2
 clear HNU
 go_wp2_with fail
 go_loopw [6, 7, 8, 9, 10] (fun v6 v7 _ _ _ wt => ∃ (a b : Sl) (m t : List En) (n : Nat) (acc : List En) (s4 : Sl), v6 = .slice a.p a.n a.c ∧ v7 = .slice b.p b.n b.c ∧ Hid (Es w a m) ∧ Hid (Es w b t) ∧ Hid (a.n ≤ 1000) ∧ Hid (b.n ≤ 1000) ∧ Hid (m.length + t.length ≤ n) ∧ Hid (acc ++ mgF c d n m t = tot) ∧ Hid (Apart [] w wt) ∧ Hid (wt.heap[X]? = some (.cells (sv c s) 104 (0, 0))) ∧ Hid (wt.heap[Y]? = some (.cells (sv d o) 104 (0, 0))) ∧ Hid (wt.heap[Z]? = some (.cells #[.int .i64 0, .int .i64 0, .int .i64 0, .int .i64 0, .int .i64 0, .int .i64 0, .int .i64 0, .int .i64 0, .slice none 0 0] 104 (0, 0))) ∧ Hid (wt.heap[U]? = some (.cells (sv g s4) 104 (0, 0))) ∧ Hid (Nw w wt 141 9 s4 (evs acc)) ∧ Hid (s4.n = acc.length) ∧ Hid (∀ x ∈ acc, x.t.length = 8)) (fun v6 v7 _ _ _ _ => lenOf v6 + lenOf v7)
 case atStart => exact ⟨s, o, es, fs, es.length + fs.length, [], ⟨none, 0, 0⟩, rfl, rfl, HEs, HFs, Hsn, Hon, hid (Nat.le_refl _), hid (by rw [Htot.out]; rfl), HA, HBX, HBY, HBZ, HBU, hid ⟨World.ownsRow_nil _ _ _ _, by simp [Sl.v, Value.ownBlock], HA.out⟩, hid rfl, hid (by simp)⟩
 case round =>
  clear HA HBX HBY HBZ HBU
  obtain ⟨a, b, m, t, n, acc, s4, rfl, rfl, HEa, HEb, Hal, Hbl, Hn, Hmg, HA, HBX, HBY, HBZ, HBU, HW, Hs, Hrw⟩ := hrel
  generalize wr = wt at *
  by_cases h0 : m.length + t.length = 0
  ·obtain rfl : m = [] := List.eq_nil_of_length_eq_zero (by omega)
   obtain rfl : t = [] := List.eq_nil_of_length_eq_zero (by omega)
   have Hac : Hid (acc = tot) := hid (by have := Hmg.out; rw [mgF_nil, List.append_nil] at this; exact this)
   have ha0 : a.n = 0 := HEa.out.len
   have hb0 : b.n = 0 := HEb.out.len
   rw [ha0, hb0]
   clear ha0 hb0 h0
   go_wp2_with (first
    | refine wpList_load_row rfl 104 _ rfl U rfl 104 _ (0, 0) _ HBU.out Tryz.underlying104 rfl (by rw [size91, sv_size Hgl.out]) ?_
    | (refine wpList_store_row rfl 104 _ _ rfl Z (sv g s4) rfl rfl 104 _ HBZ.out (by rw [size91, sv_size Hgl.out]) (by rw [sv_size Hgl.out]; rfl) (sv_one _ _) ?_))
   refine bodyPost_ret (results_cell_row rfl _ _ Z 104 (sv g s4) _ _ rfl (setRow_heap _ _ _ _ _ _ HBZ.out) Tryz.underlying104 rfl (by rw [size91, sv_size Hgl.out])) rfl ?_
   have HSz := apart_setRow wt Z (sv g s4)
   refine ⟨s4, rfl, ?_, HA.out.trans' HSz (by intro y hy; simp at hy; rw [hy]; exact .inr HLZ.out)⟩
   rw [← Hac.out]
   exact (Es.of_nw HW.out Hs.out Hrw.out).kept HSz (fun k hk cur mm e => by simp at hk; rw [hk, HBZ.out] at e; simp at e)
  ·obtain ⟨l, Hl⟩ : ∃ l, Hid (l = leaE m t) := ⟨_, hid rfl⟩
   obtain ⟨em, Hem⟩ : ∃ x, Hid (x = entE m l) := ⟨_, hid rfl⟩
   obtain ⟨et, Het⟩ : ∃ x, Hid (x = entE t l) := ⟨_, hid rfl⟩
   have Heml : Hid (em.length = 8) := hid (by rw [Hem.out]; exact ent_len HEa.out.row l)
   have Hetl : Hid (et.length = 8) := hid (by rw [Het.out]; exact ent_len HEb.out.row l)
   obtain ⟨q, Hq⟩ : ∃ x, Hid (x = mt em c et d) := ⟨_, hid rfl⟩
   have Hql : Hid (q.length = 8) := hid (by rw [Hq.out]; exact mt_len _ _ _ _)
   have Hless : Hid ((resE m l).length + (resE t l).length < m.length + t.length) := hid (by rw [Hl.out]; exact res_less h0)
   obtain ⟨n', rfl⟩ : ∃ n', n = n' + 1 := ⟨n - 1, by have := Hn.out; omega⟩
   have Hst : Hid (mgF c d (n' + 1) m t = (if q = zr then [] else [⟨l, q⟩]) ++ mgF c d n' (resE m l) (resE t l)) := hid (by rw [mgF, if_neg h0, Hq.out, Hem.out, Het.out, Hl.out])
   have Hstep0 : Hid (q = zr → acc ++ mgF c d n' (resE m l) (resE t l) = tot) := hid (fun e => by have h1 := Hmg.out; rw [Hst.out, if_pos e] at h1; exact h1)
   have Hstep1 : Hid (q ≠ zr → (acc ++ [⟨l, q⟩]) ++ mgF c d n' (resE m l) (resE t l) = tot) := hid (fun e => by have h1 := Hmg.out; rw [Hst.out, if_neg e] at h1; rw [List.append_assoc]; exact h1)
   have Haccl : Hid (acc.length ≤ 5000) := hid (by have h1 := congrArg List.length Hmg.out; rw [List.length_append] at h1; have h2 := Htotl.out; omega)
   have Hn2 : Hid (m.length + t.length ≤ n' + 1) := Hn
   have HoE : Hid (wt.heap.size ∉ s4.v.ownBlock.toList) := hid (HW.out.lt (Nat.le_refl _))
   have HoF : Hid (wt.heap.size + 1 ∉ s4.v.ownBlock.toList) := hid (HW.out.lt (by omega))
   have HoG : Hid (wt.heap.size + 1 + 1 ∉ s4.v.ownBlock.toList) := hid (HW.out.lt (by omega))
   clear Hn Hst Hmg
   by_cases ha0 : a.n = 0
   ·have hb1 : ((b.n : Nat) : Int) > 0 := by have h1 := HEa.out.len; have h2 := HEb.out.len; omega
    have ha1 : ¬ ((a.n : Nat) : Int) > 0 := by omega
    have Ha0 := hid ha0
    clear ha0
    go_upto_region 6 with fail
    clear ha1
    try clear hb1
    obtain ⟨E, HXE⟩ : ∃ X, Hid (X = wt.heap.size) := ⟨_, rfl⟩
    obtain ⟨w1, hwE⟩ : ∃ W, W = wt.alloc (.cells (⟨⟨#[]⟩, zr⟩ : En).vs.toArray 141) := ⟨_, rfl⟩
    have HSw1 : Hid (Apart [] wt w1) := hid (zM hwE)
    have HBE : Hid (w1.heap[E]? = some (.cells (⟨⟨#[]⟩, zr⟩ : En).vs.toArray 141 (0, 0))) := hid (zN HXE.out hwE)
    have HLE : Hid (w.heap.size ≤ E) := by unfold Hid; rw [HXE.out]; exact HA.out.size
    replace HA := hid (HA.out.trans HSw1.out)
    have HNEX : Hid (X ≠ E) := by unfold Hid; have := lt_of_heap HBX.out; rw [HXE.out]; omega
    replace HBX := hid (keep0 HSw1.out HBX.out)
    have HNEY : Hid (Y ≠ E) := by unfold Hid; have := lt_of_heap HBY.out; rw [HXE.out]; omega
    replace HBY := hid (keep0 HSw1.out HBY.out)
    have HNEZ : Hid (Z ≠ E) := by unfold Hid; have := lt_of_heap HBZ.out; rw [HXE.out]; omega
    replace HBZ := hid (keep0 HSw1.out HBZ.out)
    have HNEU : Hid (U ≠ E) := by unfold Hid; have := lt_of_heap HBU.out; rw [HXE.out]; omega
    replace HBU := hid (keep0 HSw1.out HBU.out)
    obtain ⟨F, HXF⟩ : ∃ X, Hid (X = w1.heap.size) := ⟨_, rfl⟩
    obtain ⟨w2, hwF⟩ : ∃ W, W = w1.alloc (.cells (rv zr).toArray 99) := ⟨_, rfl⟩
    have HSw2 : Hid (Apart [] w1 w2) := hid (zM hwF)
    have HBF : Hid (w2.heap[F]? = some (.cells (rv zr).toArray 99 (0, 0))) := hid (zN HXF.out hwF)
    have HLF : Hid (w.heap.size ≤ F) := by unfold Hid; rw [HXF.out]; exact HA.out.size
    replace HA := hid (HA.out.trans HSw2.out)
    have HNFX : Hid (X ≠ F) := by unfold Hid; have := lt_of_heap HBX.out; rw [HXF.out]; omega
    replace HBX := hid (keep0 HSw2.out HBX.out)
    have HNFY : Hid (Y ≠ F) := by unfold Hid; have := lt_of_heap HBY.out; rw [HXF.out]; omega
    replace HBY := hid (keep0 HSw2.out HBY.out)
    have HNFZ : Hid (Z ≠ F) := by unfold Hid; have := lt_of_heap HBZ.out; rw [HXF.out]; omega
    replace HBZ := hid (keep0 HSw2.out HBZ.out)
    have HNFU : Hid (U ≠ F) := by unfold Hid; have := lt_of_heap HBU.out; rw [HXF.out]; omega
    replace HBU := hid (keep0 HSw2.out HBU.out)
    have HNFE : Hid (E ≠ F) := by unfold Hid; have := lt_of_heap HBE.out; rw [HXF.out]; omega
    replace HBE := hid (keep0 HSw2.out HBE.out)
    have heF : E + 1 = F := by rw [HXF.out, hwE, HXE.out]; exact (Array.size_push _).symm
    obtain ⟨G, HXG⟩ : ∃ X, Hid (X = w2.heap.size) := ⟨_, rfl⟩
    obtain ⟨w3, hwG⟩ : ∃ W, W = w2.alloc (.cells (rv zr).toArray 99) := ⟨_, rfl⟩
    have HSw3 : Hid (Apart [] w2 w3) := hid (zM hwG)
    have HBG : Hid (w3.heap[G]? = some (.cells (rv zr).toArray 99 (0, 0))) := hid (zN HXG.out hwG)
    have HLG : Hid (w.heap.size ≤ G) := by unfold Hid; rw [HXG.out]; exact HA.out.size
    replace HA := hid (HA.out.trans HSw3.out)
    have HNGX : Hid (X ≠ G) := by unfold Hid; have := lt_of_heap HBX.out; rw [HXG.out]; omega
    replace HBX := hid (keep0 HSw3.out HBX.out)
    have HNGY : Hid (Y ≠ G) := by unfold Hid; have := lt_of_heap HBY.out; rw [HXG.out]; omega
    replace HBY := hid (keep0 HSw3.out HBY.out)
    have HNGZ : Hid (Z ≠ G) := by unfold Hid; have := lt_of_heap HBZ.out; rw [HXG.out]; omega
    replace HBZ := hid (keep0 HSw3.out HBZ.out)
    have HNGU : Hid (U ≠ G) := by unfold Hid; have := lt_of_heap HBU.out; rw [HXG.out]; omega
    replace HBU := hid (keep0 HSw3.out HBU.out)
    have HNGE : Hid (E ≠ G) := by unfold Hid; have := lt_of_heap HBE.out; rw [HXG.out]; omega
    replace HBE := hid (keep0 HSw3.out HBE.out)
    have HNGF : Hid (F ≠ G) := by unfold Hid; have := lt_of_heap HBF.out; rw [HXG.out]; omega
    replace HBF := hid (keep0 HSw3.out HBF.out)
    have heG : F + 1 = G := by rw [HXG.out, hwF, HXF.out]; exact (Array.size_push _).symm
    change Code.wp _ _ _ _ (((wt.alloc (.cells (⟨⟨#[]⟩, zr⟩ : En).vs.toArray 141)).alloc (.cells (rv zr).toArray 99)).alloc (.cells (rv zr).toArray 99))
    rw [← HXE.out] at HoE HoF HoG
    rw [heF] at HoF HoG
    rw [heG] at HoG
    rw [← hwE, ← HXE.out, ← hwF, heF, ← hwG, heG]
    have HW3 := hid (((HW.out.kept HSw1.out).kept HSw2.out).kept HSw3.out)
    clear hwE HXE hwF HXF heF hwG HXG heG HSw1 HSw2 HSw3 HW
    have HC := hid (least_ok (HEa.out.kept0 HA.out) (HEb.out.kept0 HA.out) (by have := Hal.out; omega) (by have := Hbl.out; omega) h0)
    rw [← Hl.out] at HC
    try rw [Ha0.out] at HC
    go_upto_region 7 with (go_at_call 66; refine HC.out.mono ?_; rintro _ w4 ⟨rfl, a4⟩; have HS4 := hid a4; clear a4 HC; have z4 : w4.cell? ⟨E, 0, none⟩ = some (.string ⟨#[]⟩) := (by rw [cell_of_row _ _ _ _ _ _ (keep0 HS4.out HBE.out)]; rfl); have f4 := frozen_of_row _ _ 0 _ _ (keep0 HS4.out HBE.out))
    replace HA := hid (HA.out.trans HS4.out)
    replace HBX := hid (keep0 HS4.out HBX.out)
    replace HBY := hid (keep0 HS4.out HBY.out)
    replace HBZ := hid (keep0 HS4.out HBZ.out)
    replace HBU := hid (keep0 HS4.out HBU.out)
    replace HBE := hid (keep0 HS4.out HBE.out)
    replace HBF := hid (keep0 HS4.out HBF.out)
    replace HBG := hid (keep0 HS4.out HBG.out)
    have HW4 := hid (HW3.out.kept HS4.out)
    clear z4 f4 HS4 HW3
    obtain ⟨w5, hw5⟩ : ∃ W, W = w4.setCell ⟨E, 0, none⟩ (.string l) := ⟨_, rfl⟩
    have HS5 : Hid (Apart [E] w4 w5) := by unfold Hid; rw [hw5]; exact (Apart.refl _ _).setCell (.inl (by simp)) _
    have HE5 : Hid (w5.heap[E]? = some (.cells (⟨l, zr⟩ : En).vs.toArray 141 (0, 0))) := by unfold Hid; rw [hw5, heap_setCell_same w4 E 0 _ 141 _ HBE.out]; rfl
    rw [← hw5]
    have HW5 : Hid (Nw w w5 141 9 s4 (evs acc)) := hid (HW4.out.keepN HS5.out (HA.out.trans' HS5.out (by intro y hy; simp at hy; rw [hy]; exact .inr HLE.out)) HoE.out)
    clear hw5 HBE HW4
    replace HBX := hid (keepB HS5.out HBX.out HNEX.out)
    replace HBY := hid (keepB HS5.out HBY.out HNEY.out)
    replace HBZ := hid (keepB HS5.out HBZ.out HNEZ.out)
    replace HBU := hid (keepB HS5.out HBU.out HNEU.out)
    replace HBF := hid (keepB HS5.out HBF.out HNFE.out.symm)
    replace HBG := hid (keepB HS5.out HBG.out HNGE.out.symm)
    replace HA := hid (HA.out.trans' HS5.out (by intro y hy; simp at hy; rw [hy]; exact .inr HLE.out))
    clear HS5
    have z5 : w5.cell? ⟨E, 0, none⟩ = some (.string l) := zK HE5.out
    have HC := hid (split_ok (HEa.out.kept0 HA.out) (by have := Hal.out; omega) l)
    rw [← Hem.out] at HC
    try rw [Ha0.out] at HC
    go_upto_region 8 with (first
     | (go_at_call 67; refine HC.out.mono ?_; rintro _ w6 ⟨a2, rfl, s6, e6, l6⟩; have HS6 := hid s6; have HE2 := hid e6; have Hl2 := hid l6; clear s6 e6 l6 HC z5; have HBF6 := hid (keep0 HS6.out HBF.out))
     | (refine wpList_store_row rfl 99 _ _ rfl F (rv em).toArray rfl rfl 99 _ HBF6.out (by rw [size86]; simp [rv_len, Heml.out]) (by simp [rv_len, Heml.out]; rfl) (all_oneCell_toArray (rv_one _)) ?_
        have HS7 := hid (apart_setRow w6 F (rv em).toArray)
        have HF7 := hid (setRow_heap _ _ _ (rv em).toArray _ _ HBF6.out)
        generalize w6.setRow F (rv em).toArray = w7 at *
        clear HBF6 HBF))
    replace HA := hid ((HA.out.trans HS6.out).trans' HS7.out (by intro y hy; simp at hy; rw [hy]; exact .inr HLF.out))
    replace HBX := hid (keepB HS7.out (keep0 HS6.out HBX.out) HNFX.out)
    replace HBY := hid (keepB HS7.out (keep0 HS6.out HBY.out) HNFY.out)
    replace HBZ := hid (keepB HS7.out (keep0 HS6.out HBZ.out) HNFZ.out)
    replace HBU := hid (keepB HS7.out (keep0 HS6.out HBU.out) HNFU.out)
    replace HE5 := hid (keepB HS7.out (keep0 HS6.out HE5.out) HNFE.out)
    replace HBG := hid (keepB HS7.out (keep0 HS6.out HBG.out) HNGF.out.symm)
    have HW7 : Hid (Nw w w7 141 9 s4 (evs acc)) := hid ((HW5.out.kept HS6.out).keepN HS7.out HA.out HoF.out)
    clear HS6 HS7 HW5
    have z5 : w7.cell? ⟨E, 0, none⟩ = some (.string l) := zK HE5.out
    have HC := hid (split_ok (HEb.out.kept0 HA.out) (by have := Hbl.out; omega) l)
    rw [← Het.out] at HC
    go_upto_region 9 with (first
     | (go_at_call 67; refine HC.out.mono ?_; rintro _ w8 ⟨b2, rfl, s8, e8, l8⟩; have HS8 := hid s8; have HE3 := hid e8; have Hl3 := hid l8; clear s8 e8 l8 HC z5; have HBG8 := hid (keep0 HS8.out HBG.out))
     | (refine wpList_store_row rfl 99 _ _ rfl G (rv et).toArray rfl rfl 99 _ HBG8.out (by rw [size86]; simp [rv_len, Hetl.out]) (by simp [rv_len, Hetl.out]; rfl) (all_oneCell_toArray (rv_one _)) ?_
        have HS9 := hid (apart_setRow w8 G (rv et).toArray)
        have HG9 := hid (setRow_heap _ _ _ (rv et).toArray _ _ HBG8.out)
        generalize w8.setRow G (rv et).toArray = w9 at *
        clear HBG8 HBG))
    replace HA := hid ((HA.out.trans HS8.out).trans' HS9.out (by intro y hy; simp at hy; rw [hy]; exact .inr HLG.out))
    replace HBX := hid (keepB HS9.out (keep0 HS8.out HBX.out) HNGX.out)
    replace HBY := hid (keepB HS9.out (keep0 HS8.out HBY.out) HNGY.out)
    replace HBZ := hid (keepB HS9.out (keep0 HS8.out HBZ.out) HNGZ.out)
    replace HBU := hid (keepB HS9.out (keep0 HS8.out HBU.out) HNGU.out)
    replace HE5 := hid (keepB HS9.out (keep0 HS8.out HE5.out) HNGE.out)
    replace HF7 := hid (keepB HS9.out (keep0 HS8.out HF7.out) HNGF.out)
    have HW9 : Hid (Nw w w9 141 9 s4 (evs acc)) := hid ((HW7.out.kept HS8.out).keepN HS9.out HA.out HoG.out)
    clear HS8 HS9 HW7
    have HC := hid (fun wx => mtags_ok (w := wx) (a := em) (ca := c) (b := et) (cb := d) Heml.out Hc.out Hetl.out Hd.out)
    rw [← Hq.out] at HC
    go_upto_region 10 with (first
     | refine wpL_val rfl (.agg (rv em).toArray) (ex_load _ rfl F 0 _ rfl (rgR HF7.out) (by rw [rv_len, Heml.out])) ?_
     | refine wpL_val rfl (.agg (rv et).toArray) (ex_load _ rfl G 0 _ rfl (rgR HG9.out) (by rw [rv_len, Hetl.out])) ?_
     | refine wpL_val rfl (.agg (rv c).toArray) (ex_load _ rfl X 0 _ rfl (sv_row HBX.out) (by rw [rv_len, Hc.out])) ?_
     | refine wpL_val rfl (.agg (rv d).toArray) (ex_load _ rfl Y 0 _ rfl (sv_row HBY.out) (by rw [rv_len, Hd.out])) ?_
     | (go_at_call 68; refine (HC.out _).mono ?_; rintro _ wa ⟨rfl, sa⟩; have HSa := hid sa; clear sa HC; have HEa5 := hid (keep0 HSa.out HE5.out))
     | (refine wpList_store_mid rfl 99 _ _ rfl E 1 (rv q).toArray rfl rfl (there_of HEa5.out 1 _ (by simp [En.vs, rv_len, Hql.out]; exact Nat.le_refl 8)) (by rw [size86]; simp [rv_len, Hql.out]) (all_oneCell_toArray (rv_one _)) ?_
        simp only [List.toList_toArray]
        have HEb5 := hid (setE_row (l := l) Hql.out HEa5.out)
        have HSb := hid (apart_setCells wa E (rv q) 1)
        generalize wa.setCells E 1 (rv q) = wb at *
        clear HEa5 HE5))
    replace HA := hid ((HA.out.trans HSa.out).trans' HSb.out (by intro y hy; simp at hy; rw [hy]; exact .inr HLE.out))
    replace HBX := hid (keepB HSb.out (keep0 HSa.out HBX.out) HNEX.out)
    replace HBY := hid (keepB HSb.out (keep0 HSa.out HBY.out) HNEY.out)
    replace HBZ := hid (keepB HSb.out (keep0 HSa.out HBZ.out) HNEZ.out)
    replace HBU := hid (keepB HSb.out (keep0 HSa.out HBU.out) HNEU.out)
    have HWb : Hid (Nw w wb 141 9 s4 (evs acc)) := hid ((HW9.out.kept HSa.out).keepN HSb.out HA.out HoE.out)
    clear HSa HSb HW9 HF7 HG9
    have hcmp := fun wx => run_neq_row wx Hql.out (show zr.length = 8 from rfl)
    have hgd := fun wx x y => gd_row wx .neq x y (rv q).toArray (rv zr).toArray
    obtain ⟨tz, Htz⟩ : ∃ z, Hid (z = (q != zr)) := ⟨_, hid rfl⟩
    rw [← Htz.out] at hcmp
    cases tz
    ·have Hqz : Hid (q = zr) := hid (by have := Htz.out; simpa using this.symm)
     go_wp2_with (first
      | refine wpL_val rfl (.agg (rv q).toArray) (ex_load _ rfl E 1 _ rfl (En.row HEb5.out) (by rw [rv_len, Hql.out])) ?_
      | refine wpL_val rfl (.agg (rv zr).toArray) (ex_build86 rfl) ?_)
     refine ⟨⟨a2, b2, resE m l, resE t l, n', acc, s4, rfl, rfl, hid (HE2.out _ HEa.out), hid (HE3.out _ HEb.out), hid (by have h1 := Hl2.out; have h2 := Hal.out; omega), hid (by have h1 := Hl3.out; have h2 := Hbl.out; omega), ?_, ?_, HA, HBX, HBY, HBZ, HBU, HWb, Hs, Hrw⟩, ?_⟩
     ·have h1 := Hless.out; have h2 := Hn2.out; exact hid (by omega)
     ·exact hid (Hstep0.out Hqz.out)
     ·have h1 := Hl2.out; have h2 := Hl3.out; have h3 := (HE2.out _ HEa.out).len; have h4 := (HE3.out _ HEb.out).len; have h5 := HEa.out.len; have h6 := HEb.out.len; have h7 := Hless.out; simp only [lenOf]; omega

    ·have Hqz : Hid (q ≠ zr) := hid (by have := Htz.out; intro e; rw [e] at this; simp at this)
     have z9 := sv_cell Hgl.out HBU.out
     obtain ⟨s9, w9, hrun, n9, l9, t9⟩ := app_entry (x := l) HWb.out Hql.out (by rw [Hs.out]; have h1 := Haccl.out; omega)
     have HR9 := hid hrun
     have HW9 := hid n9
     have Hl9 := hid l9
     have HT9 := hid t9
     clear hrun n9 l9 t9
     go_upto_region 11 with (first
      | refine wpL_val rfl (.agg (rv q).toArray) (ex_load _ rfl E 1 _ rfl (En.row HEb5.out) (by rw [rv_len, Hql.out])) ?_
      | refine wpL_val rfl (.agg (rv zr).toArray) (ex_build86 rfl) ?_)
     clear hcmp hgd
     have z10 := sv_cell Hgl.out (HT9.out.block HBU.out (by simp))
     have f10 := frozen_of_row _ _ 8 _ _ (HT9.out.block HBU.out (by simp))
     have HBU9 := hid (HT9.out.block HBU.out (by simp))
     go_wp2_with (first
      | refine wpList_load_row rfl 141 _ rfl E rfl 141 _ (0, 0) _ HEb5.out Tryz.underlying141 rfl (by rw [size106]; simp [En.vs, rv_len, Hql.out]) ?_
      | refine wpL_bs Hql.out rfl _ rfl rfl ?_
      | (at_builtin; refine wpList_append3 rfl _ _ 102 rfl _ _ rfl rfl (.slice s9.p s9.n s9.c) w9 HR9.out ?_))
     have HS10 : Hid (Apart [U] w9 (w9.setCell ⟨U, 8, none⟩ (.slice s9.p s9.n s9.c))) := hid ((Apart.refl [U] w9).setCell (p := ⟨U, 8, none⟩) (.inl (by simp)) _)
     have HU10 := hid (sv_set (s' := s9) Hgl.out HBU9.out)
     have HA10 := hid (HW9.out.ap.trans' HS10.out (by intro y hy; simp at hy; rw [hy]; exact .inr HLU.out))
     have HX10 := hid (keepB HS10.out (HT9.out.block HBX.out (by simp)) HNUX.out)
     have HY10 := hid (keepB HS10.out (HT9.out.block HBY.out (by simp)) HNUY.out)
     have HZ10 := hid (keepB HS10.out (HT9.out.block HBZ.out (by simp)) HNUZ.out)
     have HW10 : Hid (Nw w (w9.setCell ⟨U, 8, none⟩ (.slice s9.p s9.n s9.c)) 141 9 s9 (evs (acc ++ [⟨l, q⟩]))) := hid (HW9.out.keepT HS10.out HA10.out (fun j hj cur e => by simp at hj; rw [hj] at e; rw [HBU9.out] at e; simp at e))
     generalize w9.setCell ⟨U, 8, none⟩ (.slice s9.p s9.n s9.c) = w10 at *
     refine ⟨⟨a2, b2, resE m l, resE t l, n', acc ++ [⟨l, q⟩], s9, rfl, rfl, hid (HE2.out _ HEa.out), hid (HE3.out _ HEb.out), hid (by have h1 := Hl2.out; have h2 := Hal.out; omega), hid (by have h1 := Hl3.out; have h2 := Hbl.out; omega), ?_, ?_, HA10, HX10, HY10, HZ10, HU10, HW10, hid (by rw [Hl9.out, Hs.out]; simp), hid (by intro y hy; rcases List.mem_append.1 hy with hy | hy; exact Hrw.out y hy; rw [List.mem_singleton] at hy; rw [hy]; exact Hql.out)⟩, ?_⟩
     ·have h1 := Hless.out; have h2 := Hn2.out; exact hid (by omega)
     ·exact hid (Hstep1.out Hqz.out)
     ·have h1 := Hl2.out; have h2 := Hl3.out; have h3 := (HE2.out _ HEa.out).len; have h4 := (HE3.out _ HEb.out).len; have h5 := HEa.out.len; have h6 := HEb.out.len; have h7 := Hless.out; simp only [lenOf]; omega
   ·have ha1 : ((a.n : Nat) : Int) > 0 := by omega
    clear ha0
    go_upto_region 6 with fail
    clear ha1
    try clear hb1
    obtain ⟨E, HXE⟩ : ∃ X, Hid (X = wt.heap.size) := ⟨_, rfl⟩
    obtain ⟨w1, hwE⟩ : ∃ W, W = wt.alloc (.cells (⟨⟨#[]⟩, zr⟩ : En).vs.toArray 141) := ⟨_, rfl⟩
    have HSw1 : Hid (Apart [] wt w1) := hid (zM hwE)
    have HBE : Hid (w1.heap[E]? = some (.cells (⟨⟨#[]⟩, zr⟩ : En).vs.toArray 141 (0, 0))) := hid (zN HXE.out hwE)
    have HLE : Hid (w.heap.size ≤ E) := by unfold Hid; rw [HXE.out]; exact HA.out.size
    replace HA := hid (HA.out.trans HSw1.out)
    have HNEX : Hid (X ≠ E) := by unfold Hid; have := lt_of_heap HBX.out; rw [HXE.out]; omega
    replace HBX := hid (keep0 HSw1.out HBX.out)
    have HNEY : Hid (Y ≠ E) := by unfold Hid; have := lt_of_heap HBY.out; rw [HXE.out]; omega
    replace HBY := hid (keep0 HSw1.out HBY.out)
    have HNEZ : Hid (Z ≠ E) := by unfold Hid; have := lt_of_heap HBZ.out; rw [HXE.out]; omega
    replace HBZ := hid (keep0 HSw1.out HBZ.out)
    have HNEU : Hid (U ≠ E) := by unfold Hid; have := lt_of_heap HBU.out; rw [HXE.out]; omega
    replace HBU := hid (keep0 HSw1.out HBU.out)
    obtain ⟨F, HXF⟩ : ∃ X, Hid (X = w1.heap.size) := ⟨_, rfl⟩
    obtain ⟨w2, hwF⟩ : ∃ W, W = w1.alloc (.cells (rv zr).toArray 99) := ⟨_, rfl⟩
    have HSw2 : Hid (Apart [] w1 w2) := hid (zM hwF)
    have HBF : Hid (w2.heap[F]? = some (.cells (rv zr).toArray 99 (0, 0))) := hid (zN HXF.out hwF)
    have HLF : Hid (w.heap.size ≤ F) := by unfold Hid; rw [HXF.out]; exact HA.out.size
    replace HA := hid (HA.out.trans HSw2.out)
    have HNFX : Hid (X ≠ F) := by unfold Hid; have := lt_of_heap HBX.out; rw [HXF.out]; omega
    replace HBX := hid (keep0 HSw2.out HBX.out)
    have HNFY : Hid (Y ≠ F) := by unfold Hid; have := lt_of_heap HBY.out; rw [HXF.out]; omega
    replace HBY := hid (keep0 HSw2.out HBY.out)
    have HNFZ : Hid (Z ≠ F) := by unfold Hid; have := lt_of_heap HBZ.out; rw [HXF.out]; omega
    replace HBZ := hid (keep0 HSw2.out HBZ.out)
    have HNFU : Hid (U ≠ F) := by unfold Hid; have := lt_of_heap HBU.out; rw [HXF.out]; omega
    replace HBU := hid (keep0 HSw2.out HBU.out)
    have HNFE : Hid (E ≠ F) := by unfold Hid; have := lt_of_heap HBE.out; rw [HXF.out]; omega
    replace HBE := hid (keep0 HSw2.out HBE.out)
    have heF : E + 1 = F := by rw [HXF.out, hwE, HXE.out]; exact (Array.size_push _).symm
    obtain ⟨G, HXG⟩ : ∃ X, Hid (X = w2.heap.size) := ⟨_, rfl⟩
    obtain ⟨w3, hwG⟩ : ∃ W, W = w2.alloc (.cells (rv zr).toArray 99) := ⟨_, rfl⟩
    have HSw3 : Hid (Apart [] w2 w3) := hid (zM hwG)
    have HBG : Hid (w3.heap[G]? = some (.cells (rv zr).toArray 99 (0, 0))) := hid (zN HXG.out hwG)
    have HLG : Hid (w.heap.size ≤ G) := by unfold Hid; rw [HXG.out]; exact HA.out.size
    replace HA := hid (HA.out.trans HSw3.out)
    have HNGX : Hid (X ≠ G) := by unfold Hid; have := lt_of_heap HBX.out; rw [HXG.out]; omega
    replace HBX := hid (keep0 HSw3.out HBX.out)
    have HNGY : Hid (Y ≠ G) := by unfold Hid; have := lt_of_heap HBY.out; rw [HXG.out]; omega
    replace HBY := hid (keep0 HSw3.out HBY.out)
    have HNGZ : Hid (Z ≠ G) := by unfold Hid; have := lt_of_heap HBZ.out; rw [HXG.out]; omega
    replace HBZ := hid (keep0 HSw3.out HBZ.out)
    have HNGU : Hid (U ≠ G) := by unfold Hid; have := lt_of_heap HBU.out; rw [HXG.out]; omega
    replace HBU := hid (keep0 HSw3.out HBU.out)
    have HNGE : Hid (E ≠ G) := by unfold Hid; have := lt_of_heap HBE.out; rw [HXG.out]; omega
    replace HBE := hid (keep0 HSw3.out HBE.out)
    have HNGF : Hid (F ≠ G) := by unfold Hid; have := lt_of_heap HBF.out; rw [HXG.out]; omega
    replace HBF := hid (keep0 HSw3.out HBF.out)
    have heG : F + 1 = G := by rw [HXG.out, hwF, HXF.out]; exact (Array.size_push _).symm
    change Code.wp _ _ _ _ (((wt.alloc (.cells (⟨⟨#[]⟩, zr⟩ : En).vs.toArray 141)).alloc (.cells (rv zr).toArray 99)).alloc (.cells (rv zr).toArray 99))
    rw [← HXE.out] at HoE HoF HoG
    rw [heF] at HoF HoG
    rw [heG] at HoG
    rw [← hwE, ← HXE.out, ← hwF, heF, ← hwG, heG]
    have HW3 := hid (((HW.out.kept HSw1.out).kept HSw2.out).kept HSw3.out)
    clear hwE HXE hwF HXF heF hwG HXG heG HSw1 HSw2 HSw3 HW
    have HC := hid (least_ok (HEa.out.kept0 HA.out) (HEb.out.kept0 HA.out) (by have := Hal.out; omega) (by have := Hbl.out; omega) h0)
    rw [← Hl.out] at HC
    try rw [Ha0.out] at HC
    go_upto_region 7 with (go_at_call 66; refine HC.out.mono ?_; rintro _ w4 ⟨rfl, a4⟩; have HS4 := hid a4; clear a4 HC; have z4 : w4.cell? ⟨E, 0, none⟩ = some (.string ⟨#[]⟩) := (by rw [cell_of_row _ _ _ _ _ _ (keep0 HS4.out HBE.out)]; rfl); have f4 := frozen_of_row _ _ 0 _ _ (keep0 HS4.out HBE.out))
    replace HA := hid (HA.out.trans HS4.out)
    replace HBX := hid (keep0 HS4.out HBX.out)
    replace HBY := hid (keep0 HS4.out HBY.out)
    replace HBZ := hid (keep0 HS4.out HBZ.out)
    replace HBU := hid (keep0 HS4.out HBU.out)
    replace HBE := hid (keep0 HS4.out HBE.out)
    replace HBF := hid (keep0 HS4.out HBF.out)
    replace HBG := hid (keep0 HS4.out HBG.out)
    have HW4 := hid (HW3.out.kept HS4.out)
    clear z4 f4 HS4 HW3
    obtain ⟨w5, hw5⟩ : ∃ W, W = w4.setCell ⟨E, 0, none⟩ (.string l) := ⟨_, rfl⟩
    have HS5 : Hid (Apart [E] w4 w5) := by unfold Hid; rw [hw5]; exact (Apart.refl _ _).setCell (.inl (by simp)) _
    have HE5 : Hid (w5.heap[E]? = some (.cells (⟨l, zr⟩ : En).vs.toArray 141 (0, 0))) := by unfold Hid; rw [hw5, heap_setCell_same w4 E 0 _ 141 _ HBE.out]; rfl
    rw [← hw5]
    have HW5 : Hid (Nw w w5 141 9 s4 (evs acc)) := hid (HW4.out.keepN HS5.out (HA.out.trans' HS5.out (by intro y hy; simp at hy; rw [hy]; exact .inr HLE.out)) HoE.out)
    clear hw5 HBE HW4
    replace HBX := hid (keepB HS5.out HBX.out HNEX.out)
    replace HBY := hid (keepB HS5.out HBY.out HNEY.out)
    replace HBZ := hid (keepB HS5.out HBZ.out HNEZ.out)
    replace HBU := hid (keepB HS5.out HBU.out HNEU.out)
    replace HBF := hid (keepB HS5.out HBF.out HNFE.out.symm)
    replace HBG := hid (keepB HS5.out HBG.out HNGE.out.symm)
    replace HA := hid (HA.out.trans' HS5.out (by intro y hy; simp at hy; rw [hy]; exact .inr HLE.out))
    clear HS5
    have z5 : w5.cell? ⟨E, 0, none⟩ = some (.string l) := zK HE5.out
    have HC := hid (split_ok (HEa.out.kept0 HA.out) (by have := Hal.out; omega) l)
    rw [← Hem.out] at HC
    try rw [Ha0.out] at HC
    go_upto_region 8 with (first
     | (go_at_call 67; refine HC.out.mono ?_; rintro _ w6 ⟨a2, rfl, s6, e6, l6⟩; have HS6 := hid s6; have HE2 := hid e6; have Hl2 := hid l6; clear s6 e6 l6 HC z5; have HBF6 := hid (keep0 HS6.out HBF.out))
     | (refine wpList_store_row rfl 99 _ _ rfl F (rv em).toArray rfl rfl 99 _ HBF6.out (by rw [size86]; simp [rv_len, Heml.out]) (by simp [rv_len, Heml.out]; rfl) (all_oneCell_toArray (rv_one _)) ?_
        have HS7 := hid (apart_setRow w6 F (rv em).toArray)
        have HF7 := hid (setRow_heap _ _ _ (rv em).toArray _ _ HBF6.out)
        generalize w6.setRow F (rv em).toArray = w7 at *
        clear HBF6 HBF))
    replace HA := hid ((HA.out.trans HS6.out).trans' HS7.out (by intro y hy; simp at hy; rw [hy]; exact .inr HLF.out))
    replace HBX := hid (keepB HS7.out (keep0 HS6.out HBX.out) HNFX.out)
    replace HBY := hid (keepB HS7.out (keep0 HS6.out HBY.out) HNFY.out)
    replace HBZ := hid (keepB HS7.out (keep0 HS6.out HBZ.out) HNFZ.out)
    replace HBU := hid (keepB HS7.out (keep0 HS6.out HBU.out) HNFU.out)
    replace HE5 := hid (keepB HS7.out (keep0 HS6.out HE5.out) HNFE.out)
    replace HBG := hid (keepB HS7.out (keep0 HS6.out HBG.out) HNGF.out.symm)
    have HW7 : Hid (Nw w w7 141 9 s4 (evs acc)) := hid ((HW5.out.kept HS6.out).keepN HS7.out HA.out HoF.out)
    clear HS6 HS7 HW5
    have z5 : w7.cell? ⟨E, 0, none⟩ = some (.string l) := zK HE5.out
    have HC := hid (split_ok (HEb.out.kept0 HA.out) (by have := Hbl.out; omega) l)
    rw [← Het.out] at HC
    go_upto_region 9 with (first
     | (go_at_call 67; refine HC.out.mono ?_; rintro _ w8 ⟨b2, rfl, s8, e8, l8⟩; have HS8 := hid s8; have HE3 := hid e8; have Hl3 := hid l8; clear s8 e8 l8 HC z5; have HBG8 := hid (keep0 HS8.out HBG.out))
     | (refine wpList_store_row rfl 99 _ _ rfl G (rv et).toArray rfl rfl 99 _ HBG8.out (by rw [size86]; simp [rv_len, Hetl.out]) (by simp [rv_len, Hetl.out]; rfl) (all_oneCell_toArray (rv_one _)) ?_
        have HS9 := hid (apart_setRow w8 G (rv et).toArray)
        have HG9 := hid (setRow_heap _ _ _ (rv et).toArray _ _ HBG8.out)
        generalize w8.setRow G (rv et).toArray = w9 at *
        clear HBG8 HBG))
    replace HA := hid ((HA.out.trans HS8.out).trans' HS9.out (by intro y hy; simp at hy; rw [hy]; exact .inr HLG.out))
    replace HBX := hid (keepB HS9.out (keep0 HS8.out HBX.out) HNGX.out)
    replace HBY := hid (keepB HS9.out (keep0 HS8.out HBY.out) HNGY.out)
    replace HBZ := hid (keepB HS9.out (keep0 HS8.out HBZ.out) HNGZ.out)
    replace HBU := hid (keepB HS9.out (keep0 HS8.out HBU.out) HNGU.out)
    replace HE5 := hid (keepB HS9.out (keep0 HS8.out HE5.out) HNGE.out)
    replace HF7 := hid (keepB HS9.out (keep0 HS8.out HF7.out) HNGF.out)
    have HW9 : Hid (Nw w w9 141 9 s4 (evs acc)) := hid ((HW7.out.kept HS8.out).keepN HS9.out HA.out HoG.out)
    clear HS8 HS9 HW7
    have HC := hid (fun wx => mtags_ok (w := wx) (a := em) (ca := c) (b := et) (cb := d) Heml.out Hc.out Hetl.out Hd.out)
    rw [← Hq.out] at HC
    go_upto_region 10 with (first
     | refine wpL_val rfl (.agg (rv em).toArray) (ex_load _ rfl F 0 _ rfl (rgR HF7.out) (by rw [rv_len, Heml.out])) ?_
     | refine wpL_val rfl (.agg (rv et).toArray) (ex_load _ rfl G 0 _ rfl (rgR HG9.out) (by rw [rv_len, Hetl.out])) ?_
     | refine wpL_val rfl (.agg (rv c).toArray) (ex_load _ rfl X 0 _ rfl (sv_row HBX.out) (by rw [rv_len, Hc.out])) ?_
     | refine wpL_val rfl (.agg (rv d).toArray) (ex_load _ rfl Y 0 _ rfl (sv_row HBY.out) (by rw [rv_len, Hd.out])) ?_
     | (go_at_call 68; refine (HC.out _).mono ?_; rintro _ wa ⟨rfl, sa⟩; have HSa := hid sa; clear sa HC; have HEa5 := hid (keep0 HSa.out HE5.out))
     | (refine wpList_store_mid rfl 99 _ _ rfl E 1 (rv q).toArray rfl rfl (there_of HEa5.out 1 _ (by simp [En.vs, rv_len, Hql.out]; exact Nat.le_refl 8)) (by rw [size86]; simp [rv_len, Hql.out]) (all_oneCell_toArray (rv_one _)) ?_
        simp only [List.toList_toArray]
        have HEb5 := hid (setE_row (l := l) Hql.out HEa5.out)
        have HSb := hid (apart_setCells wa E (rv q) 1)
        generalize wa.setCells E 1 (rv q) = wb at *
        clear HEa5 HE5))
    replace HA := hid ((HA.out.trans HSa.out).trans' HSb.out (by intro y hy; simp at hy; rw [hy]; exact .inr HLE.out))
    replace HBX := hid (keepB HSb.out (keep0 HSa.out HBX.out) HNEX.out)
    replace HBY := hid (keepB HSb.out (keep0 HSa.out HBY.out) HNEY.out)
    replace HBZ := hid (keepB HSb.out (keep0 HSa.out HBZ.out) HNEZ.out)
    replace HBU := hid (keepB HSb.out (keep0 HSa.out HBU.out) HNEU.out)
    have HWb : Hid (Nw w wb 141 9 s4 (evs acc)) := hid ((HW9.out.kept HSa.out).keepN HSb.out HA.out HoE.out)
    clear HSa HSb HW9 HF7 HG9
    have hcmp := fun wx => run_neq_row wx Hql.out (show zr.length = 8 from rfl)
    have hgd := fun wx x y => gd_row wx .neq x y (rv q).toArray (rv zr).toArray
    obtain ⟨tz, Htz⟩ : ∃ z, Hid (z = (q != zr)) := ⟨_, hid rfl⟩
    rw [← Htz.out] at hcmp
    cases tz
    ·have Hqz : Hid (q = zr) := hid (by have := Htz.out; simpa using this.symm)
     go_wp2_with (first
      | refine wpL_val rfl (.agg (rv q).toArray) (ex_load _ rfl E 1 _ rfl (En.row HEb5.out) (by rw [rv_len, Hql.out])) ?_
      | refine wpL_val rfl (.agg (rv zr).toArray) (ex_build86 rfl) ?_)
     refine ⟨⟨a2, b2, resE m l, resE t l, n', acc, s4, rfl, rfl, hid (HE2.out _ HEa.out), hid (HE3.out _ HEb.out), hid (by have h1 := Hl2.out; have h2 := Hal.out; omega), hid (by have h1 := Hl3.out; have h2 := Hbl.out; omega), ?_, ?_, HA, HBX, HBY, HBZ, HBU, HWb, Hs, Hrw⟩, ?_⟩
     ·have h1 := Hless.out; have h2 := Hn2.out; exact hid (by omega)
     ·exact hid (Hstep0.out Hqz.out)
     ·have h1 := Hl2.out; have h2 := Hl3.out; have h3 := (HE2.out _ HEa.out).len; have h4 := (HE3.out _ HEb.out).len; have h5 := HEa.out.len; have h6 := HEb.out.len; have h7 := Hless.out; simp only [lenOf]; omega

    ·have Hqz : Hid (q ≠ zr) := hid (by have := Htz.out; intro e; rw [e] at this; simp at this)
     have z9 := sv_cell Hgl.out HBU.out
     obtain ⟨s9, w9, hrun, n9, l9, t9⟩ := app_entry (x := l) HWb.out Hql.out (by rw [Hs.out]; have h1 := Haccl.out; omega)
     have HR9 := hid hrun
     have HW9 := hid n9
     have Hl9 := hid l9
     have HT9 := hid t9
     clear hrun n9 l9 t9
     go_upto_region 11 with (first
      | refine wpL_val rfl (.agg (rv q).toArray) (ex_load _ rfl E 1 _ rfl (En.row HEb5.out) (by rw [rv_len, Hql.out])) ?_
      | refine wpL_val rfl (.agg (rv zr).toArray) (ex_build86 rfl) ?_)
     clear hcmp hgd
     have z10 := sv_cell Hgl.out (HT9.out.block HBU.out (by simp))
     have f10 := frozen_of_row _ _ 8 _ _ (HT9.out.block HBU.out (by simp))
     have HBU9 := hid (HT9.out.block HBU.out (by simp))
     go_wp2_with (first
      | refine wpList_load_row rfl 141 _ rfl E rfl 141 _ (0, 0) _ HEb5.out Tryz.underlying141 rfl (by rw [size106]; simp [En.vs, rv_len, Hql.out]) ?_
      | refine wpL_bs Hql.out rfl _ rfl rfl ?_
      | (at_builtin; refine wpList_append3 rfl _ _ 102 rfl _ _ rfl rfl (.slice s9.p s9.n s9.c) w9 HR9.out ?_))
     have HS10 : Hid (Apart [U] w9 (w9.setCell ⟨U, 8, none⟩ (.slice s9.p s9.n s9.c))) := hid ((Apart.refl [U] w9).setCell (p := ⟨U, 8, none⟩) (.inl (by simp)) _)
     have HU10 := hid (sv_set (s' := s9) Hgl.out HBU9.out)
     have HA10 := hid (HW9.out.ap.trans' HS10.out (by intro y hy; simp at hy; rw [hy]; exact .inr HLU.out))
     have HX10 := hid (keepB HS10.out (HT9.out.block HBX.out (by simp)) HNUX.out)
     have HY10 := hid (keepB HS10.out (HT9.out.block HBY.out (by simp)) HNUY.out)
     have HZ10 := hid (keepB HS10.out (HT9.out.block HBZ.out (by simp)) HNUZ.out)
     have HW10 : Hid (Nw w (w9.setCell ⟨U, 8, none⟩ (.slice s9.p s9.n s9.c)) 141 9 s9 (evs (acc ++ [⟨l, q⟩]))) := hid (HW9.out.keepT HS10.out HA10.out (fun j hj cur e => by simp at hj; rw [hj] at e; rw [HBU9.out] at e; simp at e))
     generalize w9.setCell ⟨U, 8, none⟩ (.slice s9.p s9.n s9.c) = w10 at *
     refine ⟨⟨a2, b2, resE m l, resE t l, n', acc ++ [⟨l, q⟩], s9, rfl, rfl, hid (HE2.out _ HEa.out), hid (HE3.out _ HEb.out), hid (by have h1 := Hl2.out; have h2 := Hal.out; omega), hid (by have h1 := Hl3.out; have h2 := Hbl.out; omega), ?_, ?_, HA10, HX10, HY10, HZ10, HU10, HW10, hid (by rw [Hl9.out, Hs.out]; simp), hid (by intro y hy; rcases List.mem_append.1 hy with hy | hy; exact Hrw.out y hy; rw [List.mem_singleton] at hy; rw [hy]; exact Hql.out)⟩, ?_⟩
     ·have h1 := Hless.out; have h2 := Hn2.out; exact hid (by omega)
     ·exact hid (Hstep1.out Hqz.out)
     ·have h1 := Hl2.out; have h2 := Hl3.out; have h3 := (HE2.out _ HEa.out).len; have h4 := (HE3.out _ HEb.out).len; have h5 := HEa.out.len; have h6 := HEb.out.len; have h7 := Hless.out; simp only [lenOf]; omega
end Go.Proofs.YtdbeeikjngnnnaaGreat.ty
