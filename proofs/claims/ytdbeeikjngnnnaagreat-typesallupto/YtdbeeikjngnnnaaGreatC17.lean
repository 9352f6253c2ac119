import Derived.Test.YtdbeeikjngnnnaaGreatC13
import Derived.Test.YtdbeeikjngnnnaaGreatC15
import Derived.Test.YtdbeeikjngnnnaaGreatC16
namespace Go.Proofs.YtdbeeikjngnnnaaGreat.ty
open Go.ChangeShapes Go.WideShapes Go.ChangeAt Go.RowKit
set_option linter.unusedVariables false
set_option linter.unusedSimpArgs false
set_option maxRecDepth 100000
set_option maxHeartbeats 8000000
theorem build106b {r : List Int} (hr : r.length = 8) (t : ByteArray) (W : World) : (Instr.build 141 #[(0, .string t), (1, .agg (rv r).toArray)]).run Tryz.prog W = .ok (.agg (⟨t, r⟩ : En).vs.toArray) W := by
 obtain ⟨a0, a1, a2, a3, a4, a5, a6, a7, rfl⟩ := list8 hr
 kernel_rfl
theorem ex_build106b {r : List Int} (hr : r.length = 8) {t : ByteArray} {W : World} {eval : Operand → Value} {op : Oper} (x y : Operand) (ho : op.op = .build 141 #[(0, x), (1, y)]) (hx : eval x = .string t) (hy : eval y = .agg (rv r).toArray) : (execOp eval op).run Tryz.prog W = .ok (.value (.agg (⟨t, r⟩ : En).vs.toArray)) W := by
 unfold execOp
 have e : (#[(0, x), (1, y)] : Array (Nat × Operand)).map (fun (i, x) => (i, eval x)) = #[(0, .string t), (1, .agg (rv r).toArray)] := by simp [hx, hy]
 simp only [ho, e, Sem.run_bind, build106b hr t W, Sem.run_pure, Result.andThen_ok]
theorem wp_bs {x : ByteArray} {q : List Int} (hq : q.length = 8) {o : Oper} {a : Act} {w : World} {K : Act → World → Prop} {Q : Exit → Act → World → Prop} (y : Operand) (ho : o.op = .buildSlice 102 1 #[(0, y)]) (hy : a.eval y = .agg (⟨x, q⟩ : En).vs.toArray)
  (hK : K (a.put o.dst (.slice (some ⟨w.heap.size, 0, none⟩) 1 1)) (w.alloc (.cells (⟨x, q⟩ : En).vs.toArray 141))) : o.wp Tryz.prog a w K Q := by
 unfold Oper.wp execOp
 have e : (#[(0, y)] : Array (Nat × Operand)).map (fun (i, x) => (i, a.eval x)) = #[(0, .agg (⟨x, q⟩ : En).vs.toArray)] := by simp [hy]
 simp only [ho, e, Sem.run_bind, buildS hq w, Result.andThen_ok]
 exact hK
def esI : Nat → List Nat → List En × List Nat
 | 0, us => ([], us)
 | i + 1, us => ((esI i us).1 ++ [⟨strB (((esI i us).2.drop 1).take (leV ((esI i us).2.take 1))), (rowR (((esI i us).2.drop 1).drop (leV ((esI i us).2.take 1))) 2).1⟩], (rowR (((esI i us).2.drop 1).drop (leV ((esI i us).2.take 1))) 2).2)
theorem rowR_left (us : List Nat) (wd : Nat) : (rowR us wd).2.length ≤ us.length := by
 have h := rwI_left (leV (us.take 1)) wd (us.drop 1) 8
 rw [List.length_drop] at h
 exact Nat.le_trans h (by omega)
theorem esI_left (us : List Nat) : ∀ i, (esI i us).2.length ≤ us.length
 | 0 => Nat.le_refl _
 | i + 1 => by
  have h1 := esI_left us i
  have h2 := rowR_left (((esI i us).2.drop 1).drop (leV ((esI i us).2.take 1))) 2
  simp only [List.length_drop] at h2
  unfold esI
  exact Nat.le_trans h2 (by omega)
theorem esI_row (us : List Nat) : ∀ i, ∀ x ∈ (esI i us).1, x.t.length = 8
 | 0 => by simp [esI]
 | i + 1 => by
  intro x hx
  unfold esI at hx
  rcases List.mem_append.1 hx with hx | hx
  ·exact esI_row us i x hx
  ·simp at hx
   subst hx
   exact rwI_len _ _ _ _
theorem esI_len (us : List Nat) : ∀ i, (esI i us).1.length = i
 | 0 => rfl
 | i + 1 => by unfold esI; simp [esI_len us i]
theorem app_entry {w W : World} {s : Sl} {bs : List En} {x : ByteArray} {r : List Int} (h : Nw w W 141 9 s (evs bs)) (hr : r.length = 8) (hl : s.n + 1 ≤ 1000000) :
  ∃ s' W', (Builtin.append_ #[102, 102] 102 #[.slice s.p s.n s.c, .slice (some ⟨W.heap.size, 0, none⟩) 1 1]).run Tryz.prog (W.alloc (Obj.cells (⟨x, r⟩ : En).vs.toArray 141)) = .ok (.slice s'.p s'.n s'.c) W' ∧ Nw w W' 141 9 s' (evs (bs ++ [⟨x, r⟩])) ∧ s'.n = s.n + 1 ∧ TK [141] W W' := by
 obtain ⟨i0, hif, hz0, hz1, hz2⟩ := info_of info106
 have e : evs [(⟨x, r⟩ : En)] = (⟨x, r⟩ : En).vs := by simp [evs]
 obtain ⟨s5, w5, hrun, hnw5, hs5, ap5, -⟩ := run_appM (s := s) 102 102 141 i0 _ 9 80 Tryz.underlying102 hif hz0 hz1 hz2 rfl (by decide) h 1 (evs [(⟨x, r⟩ : En)]) (by decide) (by rw [e, En.vs_len hr]) evs_one (by unfold maxLen; omega) (by omega)
 rw [e] at hrun
 exact ⟨s5, w5, hrun, by rw [evs_app]; exact hnw5, hs5, TK.own h ap5 (by simp)⟩
theorem Rr.tk106 {wB w w' : World} {R : Nat} {s : Sl} {us : List Nat} (h : Rr wB w R s us) (k : TK [141] w w') (a : Apart [] wB w') : Rr wB w' R s us := ⟨k.block h.blk (by simp), h.new, a, h.rd, h.len, h.cap, h.ok, h.u8⟩
theorem sread_ok {wB w : World} {R : Nat} {s : Sl} {us : List Nat} (h : Rr wB w R s us) (hl : us.length ≤ 100000) : Calls Tryz.prog 115 #[.agg (sv zr ⟨none, 0, 0⟩), .pointer (some ⟨R, 0, none⟩)] w fun r w' => ∃ s', r = .returned (.iface 104 (.agg (sv (rowR (us.drop 1) 2).1 s'))) ∧ Es w' s' (esI (leV ((rowR (us.drop 1) 2).2.take 1)) ((rowR (us.drop 1) 2).2.drop 1)).1 ∧ Apart [] wB w' := by
 have HWB : Hid (wB.heap.size ≤ w.heap.size) := hid h.ap.size
 have HR := hid h
 have Hl := hid hl
 have hRl := lt_of_heap h.blk
 clear h hl
 obtain ⟨r1, Hr1⟩ : ∃ r, Hid (r = rowR (us.drop 1) 2) := ⟨_, hid rfl⟩
 rw [← Hr1.out]
 obtain ⟨c, Hc⟩ : ∃ c, Hid (c = r1.1) := ⟨_, hid rfl⟩
 have Hcl : Hid (c.length = 8) := hid (by rw [Hc.out, Hr1.out]; exact rwI_len _ _ _ _)
 have Hln : Hid (r1.2.length ≤ 100000) := hid (by rw [Hr1.out]; have h1 := rowR_left (us.drop 1) 2; have h2 := Hl.out; rw [List.length_drop] at h1; omega)
 rw [← Hc.out]
 obtain ⟨ef, Hef⟩ : ∃ e, Hid (e = (esI (leV (r1.2.take 1)) (r1.2.drop 1)).1) := ⟨_, hid rfl⟩
 rw [← Hef.out]
 go_enter Tryz.func115, Tryz.ntmps115
 go_upto_region 1 with fail
 obtain ⟨X, HXX⟩ : ∃ X, Hid (X = w.heap.size) := ⟨_, rfl⟩
 obtain ⟨w1, hw1⟩ : ∃ W, W = w.alloc (.cells (sv zr ⟨none, 0, 0⟩) 104) := ⟨_, rfl⟩
 have HSw1 : Hid (Apart [] w w1) := hid (zM hw1)
 have HBX : Hid (w1.heap[X]? = some (.cells (sv zr ⟨none, 0, 0⟩) 104 (0, 0))) := hid (zN HXX.out hw1)
 have HLX : Hid (w.heap.size ≤ X) := by unfold Hid; rw [HXX.out]; exact Nat.le_refl _
 have HN : Hid (X ≠ R) := hid (by have := HLX.out; omega)
 have HBW : Hid (wB.heap.size ≤ X) := hid (Nat.le_trans HWB.out HLX.out)
 rw [← hw1, ← HXX.out]
 clear hw1 HXX hRl
 have HC := hid (next_ok (HR.out.kept0 HSw1.out) (by have := Hl.out; omega) 1 (by omega))
 go_upto_region 2 with (go_at_call 108; refine HC.out.mono ?_; rintro _ w2 ⟨a2, rfl, p2, b2, q2, s2⟩; have HR2 := hid q2; have HS2 := hid s2; clear p2 q2 s2 HC)
 have HBX2 := hid (keepB HS2.out HBX.out HN.out)
 have HC := hid (row_ok HR2.out (by have := Hl.out; rw [List.length_drop]; omega) 2 (by omega))
 rw [← Hr1.out, ← Hc.out] at HC
 clear HBX HR HS2 HSw1
 go_upto_region 3 with (first
  | (go_at_call 109; refine HC.out.mono ?_; rintro _ w3 ⟨rfl, ⟨b3, q3⟩, s3⟩; have HR3 := hid q3; have HBX3 := hid (keepB s3 HBX2.out HN.out); clear q3 s3 HC)
  | (refine wpList_store_mid rfl 99 _ _ rfl X 0 (rv c).toArray rfl rfl (there_of HBX3.out 0 _ (by simp [rv_len, Hcl.out, sv_size (show zr.length = 8 from rfl)])) (by rw [size86]; simp [rv_len, Hcl.out]) (all_oneCell_toArray (rv_one _)) ?_
     simp only [List.toList_toArray]
     have HBX4 := hid (setC_row (c := zr) rfl Hcl.out HBX3.out)
     have HS4 := hid (apart_setCells w3 X (rv c) 0)
     generalize w3.setCells X 0 (rv c) = w4 at *
     clear HBX3))
 have HR4 := hid (HR3.out.setX HS4.out HN.out HBW.out)
 obtain ⟨N, HNe⟩ : ∃ N, Hid (N = leV (r1.2.take 1)) := ⟨_, hid rfl⟩
 have hN : N < 256 := by
  rw [HNe.out]
  have h1 := leV_lt (l := r1.2.take 1) (fun x hx => HR4.out.u8 x (List.mem_of_mem_take hx))
  have h2 : (r1.2.take 1).length ≤ 1 := by rw [List.length_take]; omega
  have h3 : 2 ^ (8 * (r1.2.take 1).length) ≤ 2 ^ 8 := Nat.pow_le_pow_right (by omega) (by omega)
  omega
 obtain ⟨vs, Hvs⟩ : ∃ v, Hid (v = r1.2.drop 1) := ⟨_, hid rfl⟩
 have Hvl : Hid (vs.length ≤ 100000) := hid (by rw [Hvs.out, List.length_drop]; have := Hln.out; omega)
 have HC := hid (number_ok HR4.out (by have := Hln.out; omega) 1 (by omega))
 rw [← HNe.out, ← Hvs.out] at HC
 have HFin : Hid (esI (leV (r1.2.take 1)) (r1.2.drop 1) = esI N vs) := hid (by rw [HNe.out, Hvs.out])
 clear HR3 HBX2 HS4 HR2
 go_wp2_with (go_at_call 111; refine HC.out.mono ?_; rintro _ w5 ⟨rfl, ⟨b5, q5⟩, s5⟩; have HR5 := hid q5; have HBX5 := hid (keepB s5 HBX4.out HN.out); clear q5 s5 HC)
 clear HR4 HBX4
 go_loopw [13] (fun v wt => ∃ i : Nat, v = .int .i64 (i : Nat) ∧ i ≤ N ∧ ∃ (b s4 : Sl), Hid (Rr wB wt R b (esI i vs).2) ∧ Hid (wt.heap[X]? = some (.cells (sv c s4) 104 (0, 0))) ∧ Hid (Nw wB wt 141 9 s4 (evs (esI i vs).1)) ∧ Hid (s4.n = i)) (fun v _ => N - (intOf v).toNat)
 case atStart => exact ⟨0, rfl, Nat.zero_le _, b5, ⟨none, 0, 0⟩, HR5, HBX5, hid ⟨World.ownsRow_nil _ _ _ _, by simp [Sl.v, Value.ownBlock], HR5.out.ap⟩, hid rfl⟩
 case round =>
  clear HR5 HBX5
  obtain ⟨i, rfl, hi, b, s4, HR, HBX, HW, Hs⟩ := hrel
  generalize wr = wt at *
  have HRb := hid HR.out.blk
  by_cases hlt : i < N
  ·have hlti : ((i : Nat) : Int) < ((N : Nat) : Int) := by omega
   obtain ⟨q, Hq⟩ : ∃ q, Hid (q = (esI i vs).2) := ⟨_, hid rfl⟩
   have Hql : Hid (q.length ≤ 100000) := hid (by rw [Hq.out]; exact Nat.le_trans (esI_left vs i) Hvl.out)
   have Hst : Hid (esI (i + 1) vs = ((esI i vs).1 ++ [⟨strB ((q.drop 1).take (leV (q.take 1))), (rowR ((q.drop 1).drop (leV (q.take 1))) 2).1⟩], (rowR ((q.drop 1).drop (leV (q.take 1))) 2).2)) := hid (by rw [Hq.out]; rfl)
   rw [← Hq.out] at HR
   obtain ⟨k, Hk⟩ : ∃ k, Hid (k = leV (q.take 1)) := ⟨_, hid rfl⟩
   have hk : k < 256 := by
    rw [Hk.out]
    have h1 := leV_lt (l := q.take 1) (fun x hx => HR.out.u8 x (List.mem_of_mem_take hx))
    have h2 : (q.take 1).length ≤ 1 := by rw [List.length_take]; omega
    have h3 : 2 ^ (8 * (q.take 1).length) ≤ 2 ^ 8 := Nat.pow_le_pow_right (by omega) (by omega)
    omega
   rw [← Hk.out] at Hst
   have HC1 := hid (number_ok HR.out (by have := Hql.out; omega) 1 (by omega))
   rw [← Hk.out] at HC1
   have HC2 : Hid (∀ (w6 : World) (b6 : Sl), Rr wB w6 R b6 (q.drop 1) → Calls Tryz.prog 108 #[.pointer (some ⟨R, 0, none⟩), .int .i64 (k : Int)] w6 fun r w' => ∃ a : Sl, r = .returned (.slice a.p a.n a.c) ∧ Pt wB a ((q.drop 1).take k) ∧ ∃ b, Rr wB w' R b ((q.drop 1).drop k) ∧ Apart [R] w6 w') := hid (fun w6 b6 h6 => next_ok h6 (by have := Hql.out; rw [List.length_drop]; omega) k (by omega))
   obtain ⟨x, Hx⟩ : ∃ x, Hid (x = strB ((q.drop 1).take k)) := ⟨_, hid rfl⟩
   go_upto_region 6 with (first
    | (go_at_call 111; refine HC1.out.mono ?_; rintro _ w6 ⟨rfl, ⟨b6, q6⟩, s6⟩; have HR6 := hid q6; have HS6 := hid s6; clear q6 s6 HC1)
    | (go_at_call 108; refine (HC2.out _ b6 HR6.out).mono ?_; rintro _ w7 ⟨a7, rfl, p7, b7, q7, s7⟩; have HR7 := hid q7; have HS7 := hid (HS6.out.trans s7); have hcv := conv_bytes (p7.rd.kept0 q7.ap) p7.len p7.ok; rw [← Hx.out] at hcv; clear q7 s7 p7 HC2))
   clear hcv
   obtain ⟨r2, Hr2⟩ : ∃ r, Hid (r = rowR ((q.drop 1).drop k) 2) := ⟨_, hid rfl⟩
   have Hr2l : Hid (r2.1.length = 8) := hid (by rw [Hr2.out]; exact rwI_len _ _ _ _)
   rw [← Hx.out, ← Hr2.out] at Hst
   replace HBX := hid (keepB HS7.out HBX.out HN.out)
   have HW7 : Hid (Nw wB w7 141 9 s4 (evs (esI i vs).1)) := hid (HW.out.keepT HS7.out HR7.out.ap (fun j hj cur e => by simp at hj; rw [hj] at e; have hb := HRb.out; rw [hb] at e; simp at e))
   have HRk := hid HR7.out.blk
   clear HW HS7 HS6 HR6 HR
   obtain ⟨es, Hes⟩ : ∃ e, Hid (e = (esI i vs).1) := ⟨_, hid rfl⟩
   rw [← Hes.out] at HW7 Hst
   have HSdd : Hid (Apart [] w7 w7.drew) := (Apart.refl [] w7).drew
   have hAd : True := trivial
   refine wp_region_held_drew (S := fun W => True) (by kernel_rfl) hAd (fun hHeld => ?_)
   generalize w7.drew = wd at *
   clear hAd
   have HSd : Hid (Apart [] w7 wd) := HSdd
   refine zt 0 20 ?_
   refine zt 2 22 ?_
   refine zt 3 23 ?_
   simp only [zA,zB,zC,zD,zF]
   have HCr := hid (fun wx (h : Apart [] w7 wx) => row_ok (HR7.out.kept0 h) (by have := Hql.out; simp only [List.length_drop]; omega) 2 (by omega))
   rw [← Hr2.out] at HCr
   refine wpAnyH_ready (rs := [1, 4]) (by kernel_rfl) (by simp) ?_
   refine AllReadyH.cons rfl (fun KK hKK => ?_) (AllReadyH.cons rfl (fun KK hKK => ?_) AllReadyH.nil)
   ·have z := sv_cell Hcl.out (keep0 HSd.out HBX.out)
    go_simp
    refine hKK.out _ _ trivial (fun hHeld => ?_)
    clear hKK KK z
    try simp only [zA,zB,zC,zD,zF]
    refine zQ 4 fun KK hKK => ?_
    go_simp
    refine (HCr.out _ HSd.out).mono ?_
    rintro _ w8 ⟨rfl, ⟨b8, q8⟩, s8⟩
    have HRr8 := hid q8
    have HBX8 := hid (keepB s8 (keep0 HSd.out HBX.out) HN.out)
    have HW8 : Hid (Nw wB w8 141 9 s4 (evs es)) := hid ((HW7.out.kept HSd.out).keepT s8 q8.ap (fun j hj cur e => by simp at hj; rw [hj, keep0 HSd.out HRk.out] at e; simp at e))
    clear q8 s8
    try dsimp only
    refine hKK.out _ _ trivial (fun hHeld => ?_)
    clear hKK KK
    try simp only [zA,zB,zC,zD,zF]
    refine tk 5 25 (.agg (⟨x, r2.1⟩ : En).vs.toArray) rfl ?_ ?_
    ·intro W hSW; exact ex_build106b Hr2l.out _ _ rfl rfl rfl
    simp only [zA,zB,zC,zD,zF]
    refine zQ 6 fun KK hKK => ?_
    obtain ⟨s9, w9, hrun, n9, l9, t9⟩ := app_entry (x := x) HW8.out Hr2l.out (by rw [Hs.out]; omega)
    have HR9 := hid hrun
    have HW9 : Hid (Nw wB w9 141 9 s9 (evs (esI (i + 1) vs).1)) := hid (by rw [Hst.out]; exact n9)
    have Hs9 : Hid (s9.n = i + 1) := hid (by rw [l9, Hs.out])
    have HRr9 : Hid (Rr wB w9 R b8 (esI (i + 1) vs).2) := hid (by rw [Hst.out]; exact HRr8.out.tk106 t9 n9.ap)
    have HBX9 := hid (t9.block HBX8.out (by simp))
    clear hrun n9 l9 t9
    rw [if_pos (by rfl)]
    refine wp_bs Hr2l.out _ rfl rfl ?_
    refine hKK.out _ _ trivial (fun hHeld => ?_)
    clear hKK KK
    try simp only [zA,zB,zC,zD,zF]
    refine zQ 7 fun KK hKK => ?_
    refine step_app2 rfl _ _ 102 102 rfl _ _ rfl rfl (.slice s9.p s9.n s9.c) w9 HR9.out ?_
    refine hKK.out _ _ trivial (fun hHeld => ?_)
    clear hKK KK HR9
    try simp only [zA,zB,zC,zD,zF]
    refine zt 8 28 ?_
    simp only [zA,zB,zC,zD,zF]
    refine zQ 9 fun KK hKK => ?_
    have z9 := sv_cell Hcl.out HBX9.out
    have f9 := frozen_of_row _ _ 8 _ _ HBX9.out
    go_simp
    refine hKK.out _ _ trivial (fun hHeld => ?_)
    clear hKK KK z9 f9
    try simp only [zA,zB,zC,zD,zF]
    refine wpAnyH_done (by kernel_rfl) ?_ _
    have HS10 : Hid (Apart [X] w9 (w9.setCell ⟨X, 8, none⟩ (.slice s9.p s9.n s9.c))) := hid ((Apart.refl [X] w9).setCell (p := ⟨X, 8, none⟩) (.inl (by simp)) _)
    have HBX10 := hid (sv_set (s' := s9) Hcl.out HBX9.out)
    have HR10 := hid (HRr9.out.setX HS10.out HN.out HBW.out)
    have HW10 : Hid (Nw wB (w9.setCell ⟨X, 8, none⟩ (.slice s9.p s9.n s9.c)) 141 9 s9 (evs (esI (i + 1) vs).1)) := hid (HW9.out.keepT HS10.out HR10.out.ap (fun j hj cur e => by simp at hj; rw [hj] at e; rw [HBX9.out] at e; simp at e))
    generalize w9.setCell ⟨X, 8, none⟩ (.slice s9.p s9.n s9.c) = w10 at *
    clear hHeld HS10 HBX9 HRr9 HW9 HW8 HRr8 HBX8
    go_wp2_with fail
    exact ⟨⟨i + 1, by go_num, by omega, b8, s9, HR10, HBX10, HW10, Hs9⟩, by simp [intOf]; omega⟩
   ·go_simp
    refine (HCr.out _ HSd.out).mono ?_
    rintro _ w8 ⟨rfl, ⟨b8, q8⟩, s8⟩
    have HRr8 := hid q8
    have HBX8 := hid (keepB s8 (keep0 HSd.out HBX.out) HN.out)
    have HW8 : Hid (Nw wB w8 141 9 s4 (evs es)) := hid ((HW7.out.kept HSd.out).keepT s8 q8.ap (fun j hj cur e => by simp at hj; rw [hj, keep0 HSd.out HRk.out] at e; simp at e))
    clear q8 s8
    try dsimp only
    refine hKK.out _ _ trivial (fun hHeld => ?_)
    clear hKK KK
    try simp only [zA,zB,zC,zD,zF]
    refine tk 5 25 (.agg (⟨x, r2.1⟩ : En).vs.toArray) rfl ?_ ?_
    ·intro W hSW; exact ex_build106b Hr2l.out _ _ rfl rfl rfl
    simp only [zA,zB,zC,zD,zF]
    refine wpAnyH_ready (rs := [1, 6]) (by kernel_rfl) (by simp) ?_
    refine AllReadyH.cons rfl (fun KK hKK => ?_) (AllReadyH.cons rfl (fun KK hKK => ?_) AllReadyH.nil)
    ·have z := sv_cell Hcl.out HBX8.out
     go_simp
     refine hKK.out _ _ trivial (fun hHeld => ?_)
     clear hKK KK z
     try simp only [zA,zB,zC,zD,zF]
     refine zQ 6 fun KK hKK => ?_
     obtain ⟨s9, w9, hrun, n9, l9, t9⟩ := app_entry (x := x) HW8.out Hr2l.out (by rw [Hs.out]; omega)
     have HR9 := hid hrun
     have HW9 : Hid (Nw wB w9 141 9 s9 (evs (esI (i + 1) vs).1)) := hid (by rw [Hst.out]; exact n9)
     have Hs9 : Hid (s9.n = i + 1) := hid (by rw [l9, Hs.out])
     have HRr9 : Hid (Rr wB w9 R b8 (esI (i + 1) vs).2) := hid (by rw [Hst.out]; exact HRr8.out.tk106 t9 n9.ap)
     have HBX9 := hid (t9.block HBX8.out (by simp))
     clear hrun n9 l9 t9
     rw [if_pos (by rfl)]
     refine wp_bs Hr2l.out _ rfl rfl ?_
     refine hKK.out _ _ trivial (fun hHeld => ?_)
     clear hKK KK
     try simp only [zA,zB,zC,zD,zF]
     refine zQ 7 fun KK hKK => ?_
     refine step_app2 rfl _ _ 102 102 rfl _ _ rfl rfl (.slice s9.p s9.n s9.c) w9 HR9.out ?_
     refine hKK.out _ _ trivial (fun hHeld => ?_)
     clear hKK KK HR9
     try simp only [zA,zB,zC,zD,zF]
     refine zt 8 28 ?_
     simp only [zA,zB,zC,zD,zF]
     refine zQ 9 fun KK hKK => ?_
     have z9 := sv_cell Hcl.out HBX9.out
     have f9 := frozen_of_row _ _ 8 _ _ HBX9.out
     go_simp
     refine hKK.out _ _ trivial (fun hHeld => ?_)
     clear hKK KK z9 f9
     try simp only [zA,zB,zC,zD,zF]
     refine wpAnyH_done (by kernel_rfl) ?_ _
     have HS10 : Hid (Apart [X] w9 (w9.setCell ⟨X, 8, none⟩ (.slice s9.p s9.n s9.c))) := hid ((Apart.refl [X] w9).setCell (p := ⟨X, 8, none⟩) (.inl (by simp)) _)
     have HBX10 := hid (sv_set (s' := s9) Hcl.out HBX9.out)
     have HR10 := hid (HRr9.out.setX HS10.out HN.out HBW.out)
     have HW10 : Hid (Nw wB (w9.setCell ⟨X, 8, none⟩ (.slice s9.p s9.n s9.c)) 141 9 s9 (evs (esI (i + 1) vs).1)) := hid (HW9.out.keepT HS10.out HR10.out.ap (fun j hj cur e => by simp at hj; rw [hj] at e; rw [HBX9.out] at e; simp at e))
     generalize w9.setCell ⟨X, 8, none⟩ (.slice s9.p s9.n s9.c) = w10 at *
     clear hHeld HS10 HBX9 HRr9 HW9 HW8 HRr8 HBX8
     go_wp2_with fail
     exact ⟨⟨i + 1, by go_num, by omega, b8, s9, HR10, HBX10, HW10, Hs9⟩, by simp [intOf]; omega⟩
    ·skip
     obtain ⟨s9, w9, hrun, n9, l9, t9⟩ := app_entry (x := x) HW8.out Hr2l.out (by rw [Hs.out]; omega)
     have HR9 := hid hrun
     have HW9 : Hid (Nw wB w9 141 9 s9 (evs (esI (i + 1) vs).1)) := hid (by rw [Hst.out]; exact n9)
     have Hs9 : Hid (s9.n = i + 1) := hid (by rw [l9, Hs.out])
     have HRr9 : Hid (Rr wB w9 R b8 (esI (i + 1) vs).2) := hid (by rw [Hst.out]; exact HRr8.out.tk106 t9 n9.ap)
     have HBX9 := hid (t9.block HBX8.out (by simp))
     clear hrun n9 l9 t9
     rw [if_pos (by rfl)]
     refine wp_bs Hr2l.out _ rfl rfl ?_
     refine hKK.out _ _ trivial (fun hHeld => ?_)
     clear hKK KK
     try simp only [zA,zB,zC,zD,zF]
     refine zQ 1 fun KK hKK => ?_
     have z := sv_cell Hcl.out (keep0 ((Apart.refl [] w8).alloc (.cells (⟨x, r2.1⟩ : En).vs.toArray 141)) HBX8.out)
     go_simp
     refine hKK.out _ _ trivial (fun hHeld => ?_)
     clear hKK KK z
     try simp only [zA,zB,zC,zD,zF]
     refine zQ 7 fun KK hKK => ?_
     refine step_app2 rfl _ _ 102 102 rfl _ _ rfl rfl (.slice s9.p s9.n s9.c) w9 HR9.out ?_
     refine hKK.out _ _ trivial (fun hHeld => ?_)
     clear hKK KK HR9
     try simp only [zA,zB,zC,zD,zF]
     refine zt 8 28 ?_
     simp only [zA,zB,zC,zD,zF]
     refine zQ 9 fun KK hKK => ?_
     have z9 := sv_cell Hcl.out HBX9.out
     have f9 := frozen_of_row _ _ 8 _ _ HBX9.out
     go_simp
     refine hKK.out _ _ trivial (fun hHeld => ?_)
     clear hKK KK z9 f9
     try simp only [zA,zB,zC,zD,zF]
     refine wpAnyH_done (by kernel_rfl) ?_ _
     have HS10 : Hid (Apart [X] w9 (w9.setCell ⟨X, 8, none⟩ (.slice s9.p s9.n s9.c))) := hid ((Apart.refl [X] w9).setCell (p := ⟨X, 8, none⟩) (.inl (by simp)) _)
     have HBX10 := hid (sv_set (s' := s9) Hcl.out HBX9.out)
     have HR10 := hid (HRr9.out.setX HS10.out HN.out HBW.out)
     have HW10 : Hid (Nw wB (w9.setCell ⟨X, 8, none⟩ (.slice s9.p s9.n s9.c)) 141 9 s9 (evs (esI (i + 1) vs).1)) := hid (HW9.out.keepT HS10.out HR10.out.ap (fun j hj cur e => by simp at hj; rw [hj] at e; rw [HBX9.out] at e; simp at e))
     generalize w9.setCell ⟨X, 8, none⟩ (.slice s9.p s9.n s9.c) = w10 at *
     clear hHeld HS10 HBX9 HRr9 HW9 HW8 HRr8 HBX8
     go_wp2_with fail
     exact ⟨⟨i + 1, by go_num, by omega, b8, s9, HR10, HBX10, HW10, Hs9⟩, by simp [intOf]; omega⟩
  ·have hlti : ¬ ((i : Nat) : Int) < ((N : Nat) : Int) := by omega
   obtain rfl : N = i := by omega
   go_wp2_with (refine wpList_load_row rfl 104 _ rfl X rfl 104 _ (0, 0) _ HBX.out Tryz.underlying104 rfl (by rw [size91, sv_size Hcl.out]) ?_)
   go_ret
   exact ⟨s4, rfl, by rw [Hef.out, HFin.out]; exact Es.of_nw HW.out (by rw [Hs.out, esI_len]) (esI_row _ _), HR.out.ap⟩
def U8 (l : List Nat) : Prop := ∀ x ∈ l, x < 256
theorem U8.app {a b : List Nat} (h : U8 a) (k : U8 b) : U8 (a ++ b) := fun x hx => by
 rcases List.mem_append.1 hx with hx | hx
 ·exact h x hx
 ·exact k x hx
theorem U8.cons {a : Nat} {b : List Nat} (h : a < 256) (k : U8 b) : U8 (a :: b) := fun x hx => by
 rcases List.mem_cons.1 hx with rfl | hx
 ·exact h
 ·exact k x hx
theorem U8.nil : U8 [] := fun x hx => by simp at hx
theorem leB_u8 (n : Nat) : ∀ k, U8 (leB n k)
 | 0 => U8.nil
 | k + 1 => by
  unfold leB
  exact (leB_u8 n k).app (U8.cons (Nat.mod_lt _ (by decide)) U8.nil)
theorem nb8_u8 (r : List Int) (wd : Nat) : ∀ i, U8 (nb8 r wd i)
 | 0 => U8.nil
 | i + 1 => by
  unfold nb8
  split
  ·exact (nb8_u8 r wd i).app (leB_u8 _ _)
  ·exact nb8_u8 r wd i
theorem rowB_u8 (r : List Int) (wd : Nat) : U8 (rowB r wd) := U8.cons (mk8_lt r 8) (nb8_u8 r wd 8)
theorem bsk_u8 (t : ByteArray) : U8 (bsk t) := fun x hx => by
 unfold bsk at hx
 obtain ⟨b, _, rfl⟩ := List.mem_map.1 hx
 exact UInt8.toNat_lt b
theorem esB_u8 : ∀ es : List En, U8 (esB es)
 | [] => U8.nil
 | x :: r => by
  unfold esB enB
  exact (U8.cons (Nat.mod_lt _ (by decide)) ((bsk_u8 _).app (rowB_u8 _ _))).app (esB_u8 r)
def formV (v : Vl) : List Nat := match v with
 | Sum.inl (u, d) => 1 :: rowB (ob u d) 6
 | Sum.inr (Sum.inl (c, es)) => setB c es
 | Sum.inr (Sum.inr (Sum.inl (c, g))) => 3 :: (rowB c 2 ++ rowB g 2)
 | Sum.inr (Sum.inr (Sum.inr (s, a, t))) => 4 :: (leB s.toNat 3 ++ (a.toNat % 256) :: bsk t)
theorem formV_u8 (v : Vl) : U8 (formV v) := by
 cases v using Vl.el with
 | cnt u d => exact U8.cons (by decide) (rowB_u8 _ _)
 | set c es => exact U8.cons (by decide) ((rowB_u8 _ _).app (U8.cons (Nat.mod_lt _ (by decide)) (esB_u8 _)))
 | flg c g => exact U8.cons (by decide) ((rowB_u8 _ _).app (rowB_u8 _ _))
 | rgs s a t => exact U8.cons (by decide) ((leB_u8 _ _).app (U8.cons (Nat.mod_lt _ (by decide)) (bsk_u8 _)))
def rightV (v : Vl) : Bool := match v with
 | Sum.inl _ => true
 | Sum.inr (Sum.inl (c, es)) => srR c es
 | Sum.inr (Sum.inr (Sum.inl (c, g))) => gr g c == c
 | Sum.inr (Sum.inr (Sum.inr (s, a, t))) => rtR s a t
def readV (k : Nat) (us : List Nat) : Vl :=
 if k = 1 then .cnt (cuR (rowR (us.drop 1) 6).1) (cdR (rowR (us.drop 1) 6).1)
 else if k = 2 then .set (rowR (us.drop 1) 2).1 (esI (leV ((rowR (us.drop 1) 2).2.take 1)) ((rowR (us.drop 1) 2).2.drop 1)).1
 else if k = 3 then .flg (rowR (us.drop 1) 2).1 (rowR (rowR (us.drop 1) 2).2 2).1
 else .rgs ((regR us).1 : Int) ((regR us).2.1 : Int) (strB (regR us).2.2)
theorem Wd.of {l : List Int} (h : l.length = 8) (k : ∀ x ∈ l, 0 ≤ x ∧ x ≤ 16777215) : Wd l := ⟨h, k⟩
theorem rowR_bd {us : List Nat} (h : U8 us) (wd : Nat) : (rowR us wd).1.length = 8 ∧ (∀ x ∈ (rowR us wd).1, 0 ≤ x ∧ x < 2 ^ (8 * wd)) ∧ U8 (rowR us wd).2 := by
 have hh : ∀ x ∈ us.drop 1, x < 256 := fun x hx => h x (List.mem_of_mem_drop hx)
 obtain ⟨h1, h2⟩ := rwI_bd (mask := leV (us.take 1)) (wd := wd) hh 8
 exact ⟨rwI_len _ _ _ _, h1, h2⟩
theorem Cn.of {r : List Int} (hl : r.length = 8) (h : ∀ x ∈ r, 0 ≤ x ∧ x < 65536) : Cn r := ⟨hl, fun i => by
 rw [List.getD_eq_getElem?_getD]
 rcases Nat.lt_or_ge i r.length with h1 | h1
 ·rw [List.getElem?_eq_getElem h1]
  have := h _ (List.getElem_mem h1)
  simp
  omega
 ·rw [List.getElem?_eq_none h1]; simp⟩
theorem U8.drop {l : List Nat} (h : U8 l) (n : Nat) : U8 (l.drop n) := fun x hx => h x (List.mem_of_mem_drop hx)
theorem esI_bd {us : List Nat} (h : U8 us) : ∀ i, (∀ x ∈ (esI i us).1, x.e.size ≤ us.length ∧ Cn x.t) ∧ U8 (esI i us).2
 | 0 => ⟨by simp [esI], h⟩
 | i + 1 => by
  obtain ⟨h1, h2⟩ := esI_bd h i
  have h3 := rowR_bd ((h2.drop 1).drop (leV ((esI i us).2.take 1))) 2
  refine ⟨fun x hx => ?_, h3.2.2⟩
  unfold esI at hx
  rcases List.mem_append.1 hx with hx | hx
  ·exact h1 x hx
  ·rw [List.mem_singleton] at hx
   rw [hx]
   refine ⟨?_, Cn.of h3.1 (fun y hy => ?_)⟩
   ·show (strB _).size ≤ us.length
    have h4 := esI_left us i
    rw [strB_size, List.length_take, List.length_drop]
    omega
   ·have := h3.2.1 y hy
    have e : (2 : Int) ^ (8 * 2) = 65536 := by decide
    rw [e] at this
    exact this
theorem leV1 {us : List Nat} (h : U8 us) : leV (us.take 1) < 256 := by
 have h1 := leV_lt (l := us.take 1) (fun x hx => h x (List.mem_of_mem_take hx))
 have h2 : (us.take 1).length ≤ 1 := by rw [List.length_take]; omega
 have h3 : 2 ^ (8 * (us.take 1).length) ≤ 2 ^ 8 := Nat.pow_le_pow_right (by omega) (by omega)
 omega
theorem cu_wd {g : List Int} (hl : g.length = 8) (h : ∀ x ∈ g, 0 ≤ x ∧ x < 2 ^ (8 * 6)) : Wd (cuR g) ∧ Wd (cdR g) := by
 refine ⟨Wd.of (by simp [cuR, hl]) (fun x hx => ?_), Wd.of (by simp [cdR, hl]) (fun x hx => ?_)⟩
 ·obtain ⟨y, hy, rfl⟩ := List.mem_map.1 hx
  omega
 ·obtain ⟨y, hy, rfl⟩ := List.mem_map.1 hx
  have := h y hy
  have e : (2 : Int) ^ (8 * 6) = 281474976710656 := by decide
  rw [e] at this
  omega
structure Gv (w : World) (sl : Sl) (bs : List Nat) : Prop where
 rd : Rd w sl.p (byts bs)
 len : bs.length = sl.n
 ok : sl.ok
 u8 : U8 bs
 le : bs.length ≤ 2000000
theorem Gv.kept0 {w w' : World} {sl : Sl} {bs : List Nat} (h : Gv w sl bs) (a : Apart [] w w') : Gv w' sl bs := ⟨h.rd.kept0 a, h.len, h.ok, h.u8, h.le⟩
theorem copyB {w : World} {sl : Sl} {bs : List Nat} (h : Gv w sl bs) : ∃ s' w', (Builtin.append_ #[29, 29] 29 #[.slice none 0 0, .slice sl.p sl.n sl.c]).run Tryz.prog w = .ok (.slice s'.p s'.n s'.c) w' ∧ Nw w w' 5 1 s' (byts bs) ∧ s'.n = sl.n ∧ Apart [] w w' := by
 obtain ⟨i0, hif, hz0, hz1, hz2⟩ := info_of info5
 have h1 := h.len
 have h2 := h.le
 obtain ⟨s', w', hrun, n', l'⟩ := run_appNil w 29 29 5 i0 _ 1 1 Tryz.underlying29 hif hz0 hz1 hz2 rfl (by decide) sl (byts bs) h.rd (by rw [byts_len]; omega) (oneB _) (by omega) (by omega) h.ok
 exact ⟨s', w', hrun, n', l', n'.ap⟩
theorem Nw.cap {w w' : World} {e size : Nat} {s : Sl} {us : List Value} (h : Nw w w' e size s us) : s.n ≤ s.c := by
 obtain ⟨_, ⟨hv, hz⟩ | ⟨g, cap, cur, hv, hbb, hr', hle, hrest⟩⟩ := h.own
 ·omega
 ·simp only [Sl.v, Value.slice.injEq] at hv; omega
end Go.Proofs.YtdbeeikjngnnnaaGreat.ty
