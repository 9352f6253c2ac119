import Derived.Test.YtdbeeikjngnnnaaGreatC33
namespace Go.Proofs.YtdbeeikjngnnnaaGreat.ty
open Go.ChangeShapes Go.WideShapes Go.ChangeAt Go.RowKit
set_option linter.unusedVariables false
set_option linter.unusedSimpArgs false
set_option maxRecDepth 100000
set_option maxHeartbeats 8000000
theorem rput_wide {w : World} {O : Nat} {r : Rv} {s : Sl} (h : Dk w O r s) (hk : r.k = 2) (hl : r.ts.length ≤ 9000) {i : Nat} (hi : i < 8) {e : ByteArray} (he : isE e.size = true) (h0 : 0 ≤ r.c.getD i 0) (hx : ¬ r.c.getD i 0 ≥ 65535) {es : List En} (hw : 64 < (setB (putC r.c i) es).length) (hF : ∀ (W : World) (X : Nat) (sx : Sl), Dk W X (putD r i e) sx → Calls Tryz.prog 44 #[.pointer (some ⟨X, 0, none⟩)] W fun x w' => ∃ s', x = .returned (.slice s'.p s'.n s'.c) ∧ Bf W w' s' (setB (putC r.c i) es)) : Calls Tryz.prog 51 #[.pointer (some ⟨O, 0, none⟩), .int .i64 (i : Int), .string e] w fun x w' => x = .returned (.int .i64 71) ∧ Apart [] w w' := by
 have h1 := (isE_iff e.size).1 he
 have h2 : ¬ ((e.size : Nat) : Int) < 1 := by omega
 have h3 : ¬ ((e.size : Nat) : Int) > 8 := by omega
 have h8 : ¬ (8 : Int) ≤ (i : Int) := by omega
 have Hi8 := hid h8
 have Hi := hid hi
 have HF := hid hF
 have Hw0 := hid hw
 have zc := h.dv.count hi
 have HD := hid h
 have Hl := hid hl
 obtain ⟨m, Hm⟩ : ∃ m : Nat, Hid (r.c.getD i 0 = (m : Int)) := ⟨(r.c.getD i 0).toNat, hid (by omega)⟩
 rw [Hm.out] at hx zc
 have Hmt : Hid ((r.c.getD i 0).toNat = m) := hid (by rw [Hm.out]; rfl)
 have Hlr : Hid (r.u.length = 8 ∧ r.d.length = 8 ∧ r.c.length = 8) := hid ⟨h.dv.lu, h.dv.ld, h.dv.lc⟩
 have hm : (m : Int) < 65535 := by omega
 have Hs29 : Hid ((dCells r s).toArray.size = 29) := hid (by rw [List.size_toArray, dC_len Hlr.out.1 Hlr.out.2.1 Hlr.out.2.2])
 clear he h1 h hF hl h0 hw
 go_enter Tryz.func51, Tryz.ntmps51
 go_upto_region 6 with (first
  | refine wpList_load_row rfl 63 _ rfl O rfl 63 _ (0, 0) _ HD.out.dv.blk Tryz.underlying63 rfl (by rw [size63, Hs29.out]) ?_
  | refine wpList_store_row rfl 63 _ _ rfl w.heap.size (dCells r s).toArray rfl rfl 63 _ (heap_alloc_new w _) (by rw [size63, Hs29.out]) (by rw [Hs29.out]; rfl) dC_all ?_)
 have HB5 := hid (put_new (w := w) (z := z63) (cs := (dCells r s).toArray) (T := 63))
 have HA5 := hid (put_apart (w := w) (z := z63) (cs := (dCells r s).toArray) (T := 63))
 unfold z63 at HB5 HA5
 obtain ⟨X, HX⟩ : ∃ X, Hid (X = w.heap.size) := ⟨_, hid rfl⟩
 have HXw : Hid (w.heap.size ≤ X) := hid (by rw [HX.out]; exact Nat.le_refl _)
 have HOX : Hid (O < X) := hid (by rw [HX.out]; exact lt_of_heap HD.out.dv.blk)
 rw [← HX.out] at HB5 HA5 ⊢
 generalize (w.alloc (.cells #[.int .i64 0, .int .i64 0, .int .i64 0, .int .i64 0, .int .i64 0, .int .i64 0, .int .i64 0, .int .i64 0, .int .i64 0, .int .i64 0, .int .i64 0, .int .i64 0, .int .i64 0, .int .i64 0, .int .i64 0, .int .i64 0, .int .i64 0, .int .i64 0, .int .i64 0, .int .i64 0, .int .i64 0, .int .i64 0, .int .i64 0, .int .i64 0, .int .i64 0, .slice none 0 0, .int .i64 0, .int .i64 0, .string ⟨#[]⟩] 63)).setRow X (dCells r s).toArray = w5 at *
 clear HX
 have HD5 := hid (HD.out.copy HA5.out HB5.out)
 have HT := hid (rtake_ok HD5.out (by have := Hl.out; omega) e)
 clear zc
 go_upto_region 7 with (
  go_at_call 52
  refine HT.out.mono ?_
  rintro _ w6 ⟨rfl, a6, s6, k6, o6, n6, l6⟩
  have HD6 := hid k6
  have HA6 := hid a6
  have HO6 := hid o6
  have HN6 := hid n6
  have Hs6n := hid l6
  clear a6 k6 o6 n6 l6)
 have HA6' : Hid (Apart [] w w6) := hid (HA5.out.trans' HA6.out (by intro y hy; rw [List.mem_singleton.1 hy]; exact .inr HXw.out))
 have zc : w6.cell? ⟨X, 17 + i, none⟩ = some (.int .i64 (m : Int)) := by rw [HD6.out.dv.count Hi.out, ← Hm.out]
 have fc : w6.frozen? ⟨X, 17 + i, none⟩ = false := frozen_of_row _ _ _ _ _ HD6.out.dv.blk
 go_upto_region 8 with fail
 clear zc fc
 have HD7 := hid (HD6.out.setCount Hi.out ((m : Int) + 1))
 have HA7 : Hid (Apart [] w (w6.setCell ⟨X, 17 + i, none⟩ (.int .i64 ((m : Int) + 1)))) := hid (HA6'.out.setCell (.inr HXw.out) _)
 have HN7 : Hid (Nw w (w6.setCell ⟨X, 17 + i, none⟩ (.int .i64 ((m : Int) + 1))) 96 3 s6 (tgL (takeT r.ts e))) := hid ⟨own_apart HO6.out ((Apart.refl [X] w6).setCell (.inl (by simp)) _) (fun k hk hmm => by
  have h1 := HN6.out k hk
  have h2 := List.mem_singleton.1 hmm
  have h3 := lt_of_heap HB5.out
  omega), fun k hk => Nat.le_trans HA5.out.size (HN6.out k hk), HA7.out⟩
 have HB7 := hid HD7.out.dv.blk
 generalize w6.setCell ⟨X, 17 + i, none⟩ (.int .i64 ((m : Int) + 1)) = w7 at *
 obtain ⟨r7, Hr7⟩ : ∃ r7 : Rv, Hid (r7 = { r with ts := takeT r.ts e, c := r.c.set i ((m : Int) + 1) }) := ⟨_, hid rfl⟩
 have HB7' : Hid (w7.heap[X]? = some (.cells (dCells r7 s6).toArray 63 (0, 0))) := hid (by rw [Hr7.out]; exact HB7.out)
 have Hl7 : Hid (r7.u.length = 8 ∧ r7.d.length = 8 ∧ r7.c.length = 8) := hid (by rw [Hr7.out]; exact ⟨Hlr.out.1, Hlr.out.2.1, by show (r.c.set i _).length = 8; rw [List.length_set]; exact Hlr.out.2.2⟩)
 have Hcm : Hid (r7.c.getD i 0 = ((m : Int) + 1)) := hid (by rw [Hr7.out]; show (r.c.set i ((m : Int) + 1)).getD i 0 = _; rw [setD (by rw [Hlr.out.2.2]; exact Hi.out), if_pos rfl])
 have Hs6 : Hid (s6.n ≤ 9000) := hid (by
  rw [Hs6n.out]
  have h1 : (takeT r.ts e).length ≤ r.ts.length := List.length_filter_le _ _
  have h2 := Hl.out
  omega)
 clear HB7 HD7 HD6 HA6 HO6 HN6 HD5 HT HA6' HB5
 have HB7 := HB7'
 clear HB7'
 go_cut [] from 35 to 46 (fun wx => Hid (∃ s9, Dk wx X { r7 with ts := takeT r.ts e ++ [⟨e, i, m + 1⟩] } s9 ∧ Apart [] w wx))
 case first =>
  have hAd : Sx r7 X w7.drew := ⟨s6, keep0 ((Apart.refl [] w7).drew) HB7.out⟩
  have HBd := hid (keep0 ((Apart.refl [] w7).drew) HB7.out)
  have HNd := hid (HN7.out.kept ((Apart.refl [] w7).drew))
  refine wp_region_held_drew (S := Sx r7 X) (by kernel_rfl) hAd (fun hHeld => ?_)
  generalize w7.drew = wd at *
  clear hAd
  refine zt 0 35 ?_
  refine zt 2 37 ?_
  refine zt 3 38 ?_
  refine zt 4 39 ?_
  refine zt 5 40 ?_
  simp only [zA,zB,zC,zD,zF]
  refine tk 6 41 (.pointer (some ⟨X, 17 + i, none⟩)) rfl ?_ ?_
  ·intro W hSW; have h8 := Hi8.out; go_simp
  simp only [zA,zB,zC,zD,zF]
  refine tk 7 42 (.int .i64 ((m : Int) + 1)) rfl ?_ ?_
  ·intro W hSW; obtain ⟨sx, hb⟩ := hSW; have z := cellC hb Hl7.out Hi.out; rw [Hcm.out] at z; go_simp
  simp only [zA,zB,zC,zD,zF]
  refine tk 8 43 (.agg #[.string e, .int .i64 (i : Int), .int .i64 ((m : Int) + 1)]) rfl ?_ ?_
  ·intro W hSW; exact ex_build96 _ _ _ rfl rfl rfl rfl
  simp only [zA,zB,zC,zD,zF]
  obtain ⟨s9, w9, hrun, n9, l9, a9⟩ := app_tag HNd.out ⟨e, i, m + 1⟩ (by have := Hs6.out; omega)
  have HR := hid hrun
  have HB9 : Hid (w9.heap[X]? = some (.cells (dCells r7 s6).toArray 63 (0, 0))) := hid ((a9.block X (lt_of_heap HBd.out) (fun hm => by
   obtain ⟨cur, q⟩ := own_typ HNd.out.own (k := X) (by simpa using hm)
   rw [HBd.out] at q
   simp at q)).trans HBd.out)
  have HDn := hid (Dk.put2 HB9.out Hl7.out n9 (by rw [l9, Hs6n.out, List.length_append]; rfl))
  have HAn : Hid (Apart [] w (w9.setCell ⟨X, 25, none⟩ (.slice s9.p s9.n s9.c))) := hid (n9.ap.setCell (.inr HXw.out) _)
  clear hrun n9 l9 a9
  have HBa := hid (keep0 ((Apart.refl [] wd).alloc (.cells #[.string e, .int .i64 (i : Int), .int .i64 ((m : Int) + 1)] 96)) HBd.out)
  refine wpAnyH_ready (rs := [1, 9]) (by kernel_rfl) (by simp) ?_
  refine AllReadyH.cons rfl (fun KK hKK => ?_) (AllReadyH.cons rfl (fun KK hKK => ?_) AllReadyH.nil)
  ·have z := cell25 HBd.out Hl7.out
   go_simp
   refine hKK.out _ _ (⟨s6, HBd.out⟩) (fun hHeld => ?_)
   clear hKK KK z
   try simp only [zA,zB,zC,zD,zF]
   refine zQ 9 fun KK hKK => ?_
   go_simp
   refine hKK.out _ _ (⟨s6, HBa.out⟩) (fun hHeld => ?_)
   clear hKK KK
   try simp only [zA,zB,zC,zD,zF]
   refine zQ 10 fun KK hKK => ?_
   refine step_app2 rfl _ _ 61 61 rfl _ _ rfl rfl (.slice s9.p s9.n s9.c) w9 HR.out ?_
   refine hKK.out _ _ (⟨s6, HB9.out⟩) (fun hHeld => ?_)
   clear hKK KK HR
   try simp only [zA,zB,zC,zD,zF]
   refine zt 11 46 ?_
   simp only [zA,zB,zC,zD,zF]
   refine zQ 12 fun KK hKK => ?_
   have z := cell25 HB9.out Hl7.out
   have f : w9.frozen? ⟨X, 25, none⟩ = false := frozen_of_row _ _ _ _ _ HB9.out
   go_simp
   refine hKK.out _ _ (⟨s9, HDn.out.dv.blk⟩) (fun hHeld => ?_)
   clear hKK KK z f
   try simp only [zA,zB,zC,zD,zF]
   refine wpAnyH_done (by kernel_rfl) ?_ _
   go_wp2_with fail
   go_meet
   exact hid ⟨s9, HDn.out, HAn.out⟩
  ·go_simp
   refine hKK.out _ _ (⟨s6, HBa.out⟩) (fun hHeld => ?_)
   clear hKK KK
   try simp only [zA,zB,zC,zD,zF]
   refine zQ 1 fun KK hKK => ?_
   have z := cell25 HBa.out Hl7.out
   go_simp
   refine hKK.out _ _ (⟨s6, HBa.out⟩) (fun hHeld => ?_)
   clear hKK KK z
   try simp only [zA,zB,zC,zD,zF]
   refine zQ 10 fun KK hKK => ?_
   refine step_app2 rfl _ _ 61 61 rfl _ _ rfl rfl (.slice s9.p s9.n s9.c) w9 HR.out ?_
   refine hKK.out _ _ (⟨s6, HB9.out⟩) (fun hHeld => ?_)
   clear hKK KK HR
   try simp only [zA,zB,zC,zD,zF]
   refine zt 11 46 ?_
   simp only [zA,zB,zC,zD,zF]
   refine zQ 12 fun KK hKK => ?_
   have z := cell25 HB9.out Hl7.out
   have f : w9.frozen? ⟨X, 25, none⟩ = false := frozen_of_row _ _ _ _ _ HB9.out
   go_simp
   refine hKK.out _ _ (⟨s9, HDn.out.dv.blk⟩) (fun hHeld => ?_)
   clear hKK KK z f
   try simp only [zA,zB,zC,zD,zF]
   refine wpAnyH_done (by kernel_rfl) ?_ _
   go_wp2_with fail
   go_meet
   exact hid ⟨s9, HDn.out, HAn.out⟩
 have HQ := hid hcut.out
 clear hcut
 generalize wc = wk at *
 obtain ⟨s9, k9, a9⟩ := HQ.out
 have hrk : ({ r7 with ts := takeT r.ts e ++ [⟨e, i, m + 1⟩] } : Rv) = putD r i e := by rw [Hr7.out]; unfold putD; rw [Hmt.out, Hm.out]
 rw [hrk] at k9
 have HD9 := hid k9
 have HA9 := hid a9
 clear k9 a9 hrk HQ
 have HFo := hid (HF.out wk X s9 HD9.out)
 have Hl9 : Hid ((putD r i e).u.length = 8 ∧ (putD r i e).d.length = 8 ∧ (putD r i e).c.length = 8) := hid ⟨HD9.out.dv.lu, HD9.out.dv.ld, HD9.out.dv.lc⟩
 have Hs9 : Hid ((dCells (putD r i e) s9).toArray.size = 29) := hid (by rw [List.size_toArray, dC_len Hl9.out.1 Hl9.out.2.1 Hl9.out.2.2])
 obtain ⟨L, HL⟩ : ∃ L, Hid (L = (setB (putC r.c i) es).length) := ⟨_, hid rfl⟩
 have HOw := hid (lt_of_heap HD.out.dv.blk)
 have HFn : Hid (Calls Tryz.prog 44 #[.pointer (some ⟨X, 0, none⟩)] wk fun x w' => ∃ s' : Sl, x = .returned (.slice s'.p L s'.c) ∧ Bf wk w' s' (setB (putC r.c i) es)) := hid (HFo.out.mono (fun x w' q => by obtain ⟨s', e', b'⟩ := q; exact ⟨s', by rw [e', b'.len, ← HL.out], b'⟩))
 have Hw : Hid (64 < L) := hid (by rw [HL.out]; exact Hw0.out)
 have hn : ((L : Nat) : Int) > 64 := by have := Hw.out; omega
 rename_i aK
 refine aK _ _ ?_
 clear aK
 go_upto_region 10 with (
  go_at_call 44
  refine HFn.out.mono ?_
  rintro _ wf ⟨sf, rfl, bf⟩
  have HBf := hid bf
  clear bf)
 go_wp2_with fail
 go_ret
 exact ⟨rfl, HA9.out.trans HBf.out.nw.ap⟩
theorem rput_ok {w : World} {O : Nat} {r : Rv} {s : Sl} (h : Dk w O r s) (hk : r.k = 2) (hl : r.ts.length ≤ 9000) {i : Nat} (hi : i < 8) {e : ByteArray} (he : isE e.size = true) (h0 : 0 ≤ r.c.getD i 0) (hx : ¬ r.c.getD i 0 ≥ 65535) {es : List En} (hw : ¬ 64 < (setB (putC r.c i) es).length) (hF : ∀ (W : World) (X : Nat) (sx : Sl), Dk W X (putD r i e) sx → Calls Tryz.prog 44 #[.pointer (some ⟨X, 0, none⟩)] W fun x w' => ∃ s', x = .returned (.slice s'.p s'.n s'.c) ∧ Bf W w' s' (setB (putC r.c i) es)) : Calls Tryz.prog 51 #[.pointer (some ⟨O, 0, none⟩), .int .i64 (i : Int), .string e] w fun x w' => x = .returned (.int .i64 0) ∧ Apart [O] w w' ∧ ∃ s', Dk w' O (putD r i e) s' := by
 have h1 := (isE_iff e.size).1 he
 have h2 : ¬ ((e.size : Nat) : Int) < 1 := by omega
 have h3 : ¬ ((e.size : Nat) : Int) > 8 := by omega
 have h8 : ¬ (8 : Int) ≤ (i : Int) := by omega
 have Hi8 := hid h8
 have Hi := hid hi
 have HF := hid hF
 have Hw0 := hid hw
 have zc := h.dv.count hi
 have HD := hid h
 have Hl := hid hl
 obtain ⟨m, Hm⟩ : ∃ m : Nat, Hid (r.c.getD i 0 = (m : Int)) := ⟨(r.c.getD i 0).toNat, hid (by omega)⟩
 rw [Hm.out] at hx zc
 have Hmt : Hid ((r.c.getD i 0).toNat = m) := hid (by rw [Hm.out]; rfl)
 have Hlr : Hid (r.u.length = 8 ∧ r.d.length = 8 ∧ r.c.length = 8) := hid ⟨h.dv.lu, h.dv.ld, h.dv.lc⟩
 have hm : (m : Int) < 65535 := by omega
 have Hs29 : Hid ((dCells r s).toArray.size = 29) := hid (by rw [List.size_toArray, dC_len Hlr.out.1 Hlr.out.2.1 Hlr.out.2.2])
 clear he h1 h hF hl h0 hw
 go_enter Tryz.func51, Tryz.ntmps51
 go_upto_region 6 with (first
  | refine wpList_load_row rfl 63 _ rfl O rfl 63 _ (0, 0) _ HD.out.dv.blk Tryz.underlying63 rfl (by rw [size63, Hs29.out]) ?_
  | refine wpList_store_row rfl 63 _ _ rfl w.heap.size (dCells r s).toArray rfl rfl 63 _ (heap_alloc_new w _) (by rw [size63, Hs29.out]) (by rw [Hs29.out]; rfl) dC_all ?_)
 have HB5 := hid (put_new (w := w) (z := z63) (cs := (dCells r s).toArray) (T := 63))
 have HA5 := hid (put_apart (w := w) (z := z63) (cs := (dCells r s).toArray) (T := 63))
 unfold z63 at HB5 HA5
 obtain ⟨X, HX⟩ : ∃ X, Hid (X = w.heap.size) := ⟨_, hid rfl⟩
 have HXw : Hid (w.heap.size ≤ X) := hid (by rw [HX.out]; exact Nat.le_refl _)
 have HOX : Hid (O < X) := hid (by rw [HX.out]; exact lt_of_heap HD.out.dv.blk)
 rw [← HX.out] at HB5 HA5 ⊢
 generalize (w.alloc (.cells #[.int .i64 0, .int .i64 0, .int .i64 0, .int .i64 0, .int .i64 0, .int .i64 0, .int .i64 0, .int .i64 0, .int .i64 0, .int .i64 0, .int .i64 0, .int .i64 0, .int .i64 0, .int .i64 0, .int .i64 0, .int .i64 0, .int .i64 0, .int .i64 0, .int .i64 0, .int .i64 0, .int .i64 0, .int .i64 0, .int .i64 0, .int .i64 0, .int .i64 0, .slice none 0 0, .int .i64 0, .int .i64 0, .string ⟨#[]⟩] 63)).setRow X (dCells r s).toArray = w5 at *
 clear HX
 have HD5 := hid (HD.out.copy HA5.out HB5.out)
 have HT := hid (rtake_ok HD5.out (by have := Hl.out; omega) e)
 clear zc
 go_upto_region 7 with (
  go_at_call 52
  refine HT.out.mono ?_
  rintro _ w6 ⟨rfl, a6, s6, k6, o6, n6, l6⟩
  have HD6 := hid k6
  have HA6 := hid a6
  have HO6 := hid o6
  have HN6 := hid n6
  have Hs6n := hid l6
  clear a6 k6 o6 n6 l6)
 have HA6' : Hid (Apart [] w w6) := hid (HA5.out.trans' HA6.out (by intro y hy; rw [List.mem_singleton.1 hy]; exact .inr HXw.out))
 have zc : w6.cell? ⟨X, 17 + i, none⟩ = some (.int .i64 (m : Int)) := by rw [HD6.out.dv.count Hi.out, ← Hm.out]
 have fc : w6.frozen? ⟨X, 17 + i, none⟩ = false := frozen_of_row _ _ _ _ _ HD6.out.dv.blk
 go_upto_region 8 with fail
 clear zc fc
 have HD7 := hid (HD6.out.setCount Hi.out ((m : Int) + 1))
 have HA7 : Hid (Apart [] w (w6.setCell ⟨X, 17 + i, none⟩ (.int .i64 ((m : Int) + 1)))) := hid (HA6'.out.setCell (.inr HXw.out) _)
 have HN7 : Hid (Nw w (w6.setCell ⟨X, 17 + i, none⟩ (.int .i64 ((m : Int) + 1))) 96 3 s6 (tgL (takeT r.ts e))) := hid ⟨own_apart HO6.out ((Apart.refl [X] w6).setCell (.inl (by simp)) _) (fun k hk hmm => by
  have h1 := HN6.out k hk
  have h2 := List.mem_singleton.1 hmm
  have h3 := lt_of_heap HB5.out
  omega), fun k hk => Nat.le_trans HA5.out.size (HN6.out k hk), HA7.out⟩
 have HB7 := hid HD7.out.dv.blk
 generalize w6.setCell ⟨X, 17 + i, none⟩ (.int .i64 ((m : Int) + 1)) = w7 at *
 obtain ⟨r7, Hr7⟩ : ∃ r7 : Rv, Hid (r7 = { r with ts := takeT r.ts e, c := r.c.set i ((m : Int) + 1) }) := ⟨_, hid rfl⟩
 have HB7' : Hid (w7.heap[X]? = some (.cells (dCells r7 s6).toArray 63 (0, 0))) := hid (by rw [Hr7.out]; exact HB7.out)
 have Hl7 : Hid (r7.u.length = 8 ∧ r7.d.length = 8 ∧ r7.c.length = 8) := hid (by rw [Hr7.out]; exact ⟨Hlr.out.1, Hlr.out.2.1, by show (r.c.set i _).length = 8; rw [List.length_set]; exact Hlr.out.2.2⟩)
 have Hcm : Hid (r7.c.getD i 0 = ((m : Int) + 1)) := hid (by rw [Hr7.out]; show (r.c.set i ((m : Int) + 1)).getD i 0 = _; rw [setD (by rw [Hlr.out.2.2]; exact Hi.out), if_pos rfl])
 have Hs6 : Hid (s6.n ≤ 9000) := hid (by
  rw [Hs6n.out]
  have h1 : (takeT r.ts e).length ≤ r.ts.length := List.length_filter_le _ _
  have h2 := Hl.out
  omega)
 clear HB7 HD7 HD6 HA6 HO6 HN6 HD5 HT HA6' HB5
 have HB7 := HB7'
 clear HB7'
 go_cut [] from 35 to 46 (fun wx => Hid (∃ s9, Dk wx X { r7 with ts := takeT r.ts e ++ [⟨e, i, m + 1⟩] } s9 ∧ Apart [] w wx))
 case first =>
  have hAd : Sx r7 X w7.drew := ⟨s6, keep0 ((Apart.refl [] w7).drew) HB7.out⟩
  have HBd := hid (keep0 ((Apart.refl [] w7).drew) HB7.out)
  have HNd := hid (HN7.out.kept ((Apart.refl [] w7).drew))
  refine wp_region_held_drew (S := Sx r7 X) (by kernel_rfl) hAd (fun hHeld => ?_)
  generalize w7.drew = wd at *
  clear hAd
  refine zt 0 35 ?_
  refine zt 2 37 ?_
  refine zt 3 38 ?_
  refine zt 4 39 ?_
  refine zt 5 40 ?_
  simp only [zA,zB,zC,zD,zF]
  refine tk 6 41 (.pointer (some ⟨X, 17 + i, none⟩)) rfl ?_ ?_
  ·intro W hSW; have h8 := Hi8.out; go_simp
  simp only [zA,zB,zC,zD,zF]
  refine tk 7 42 (.int .i64 ((m : Int) + 1)) rfl ?_ ?_
  ·intro W hSW; obtain ⟨sx, hb⟩ := hSW; have z := cellC hb Hl7.out Hi.out; rw [Hcm.out] at z; go_simp
  simp only [zA,zB,zC,zD,zF]
  refine tk 8 43 (.agg #[.string e, .int .i64 (i : Int), .int .i64 ((m : Int) + 1)]) rfl ?_ ?_
  ·intro W hSW; exact ex_build96 _ _ _ rfl rfl rfl rfl
  simp only [zA,zB,zC,zD,zF]
  obtain ⟨s9, w9, hrun, n9, l9, a9⟩ := app_tag HNd.out ⟨e, i, m + 1⟩ (by have := Hs6.out; omega)
  have HR := hid hrun
  have HB9 : Hid (w9.heap[X]? = some (.cells (dCells r7 s6).toArray 63 (0, 0))) := hid ((a9.block X (lt_of_heap HBd.out) (fun hm => by
   obtain ⟨cur, q⟩ := own_typ HNd.out.own (k := X) (by simpa using hm)
   rw [HBd.out] at q
   simp at q)).trans HBd.out)
  have HDn := hid (Dk.put2 HB9.out Hl7.out n9 (by rw [l9, Hs6n.out, List.length_append]; rfl))
  have HAn : Hid (Apart [] w (w9.setCell ⟨X, 25, none⟩ (.slice s9.p s9.n s9.c))) := hid (n9.ap.setCell (.inr HXw.out) _)
  clear hrun n9 l9 a9
  have HBa := hid (keep0 ((Apart.refl [] wd).alloc (.cells #[.string e, .int .i64 (i : Int), .int .i64 ((m : Int) + 1)] 96)) HBd.out)
  refine wpAnyH_ready (rs := [1, 9]) (by kernel_rfl) (by simp) ?_
  refine AllReadyH.cons rfl (fun KK hKK => ?_) (AllReadyH.cons rfl (fun KK hKK => ?_) AllReadyH.nil)
  ·have z := cell25 HBd.out Hl7.out
   go_simp
   refine hKK.out _ _ (⟨s6, HBd.out⟩) (fun hHeld => ?_)
   clear hKK KK z
   try simp only [zA,zB,zC,zD,zF]
   refine zQ 9 fun KK hKK => ?_
   go_simp
   refine hKK.out _ _ (⟨s6, HBa.out⟩) (fun hHeld => ?_)
   clear hKK KK
   try simp only [zA,zB,zC,zD,zF]
   refine zQ 10 fun KK hKK => ?_
   refine step_app2 rfl _ _ 61 61 rfl _ _ rfl rfl (.slice s9.p s9.n s9.c) w9 HR.out ?_
   refine hKK.out _ _ (⟨s6, HB9.out⟩) (fun hHeld => ?_)
   clear hKK KK HR
   try simp only [zA,zB,zC,zD,zF]
   refine zt 11 46 ?_
   simp only [zA,zB,zC,zD,zF]
   refine zQ 12 fun KK hKK => ?_
   have z := cell25 HB9.out Hl7.out
   have f : w9.frozen? ⟨X, 25, none⟩ = false := frozen_of_row _ _ _ _ _ HB9.out
   go_simp
   refine hKK.out _ _ (⟨s9, HDn.out.dv.blk⟩) (fun hHeld => ?_)
   clear hKK KK z f
   try simp only [zA,zB,zC,zD,zF]
   refine wpAnyH_done (by kernel_rfl) ?_ _
   go_wp2_with fail
   go_meet
   exact hid ⟨s9, HDn.out, HAn.out⟩
  ·go_simp
   refine hKK.out _ _ (⟨s6, HBa.out⟩) (fun hHeld => ?_)
   clear hKK KK
   try simp only [zA,zB,zC,zD,zF]
   refine zQ 1 fun KK hKK => ?_
   have z := cell25 HBa.out Hl7.out
   go_simp
   refine hKK.out _ _ (⟨s6, HBa.out⟩) (fun hHeld => ?_)
   clear hKK KK z
   try simp only [zA,zB,zC,zD,zF]
   refine zQ 10 fun KK hKK => ?_
   refine step_app2 rfl _ _ 61 61 rfl _ _ rfl rfl (.slice s9.p s9.n s9.c) w9 HR.out ?_
   refine hKK.out _ _ (⟨s6, HB9.out⟩) (fun hHeld => ?_)
   clear hKK KK HR
   try simp only [zA,zB,zC,zD,zF]
   refine zt 11 46 ?_
   simp only [zA,zB,zC,zD,zF]
   refine zQ 12 fun KK hKK => ?_
   have z := cell25 HB9.out Hl7.out
   have f : w9.frozen? ⟨X, 25, none⟩ = false := frozen_of_row _ _ _ _ _ HB9.out
   go_simp
   refine hKK.out _ _ (⟨s9, HDn.out.dv.blk⟩) (fun hHeld => ?_)
   clear hKK KK z f
   try simp only [zA,zB,zC,zD,zF]
   refine wpAnyH_done (by kernel_rfl) ?_ _
   go_wp2_with fail
   go_meet
   exact hid ⟨s9, HDn.out, HAn.out⟩
 have HQ := hid hcut.out
 clear hcut
 generalize wc = wk at *
 obtain ⟨s9, k9, a9⟩ := HQ.out
 have hrk : ({ r7 with ts := takeT r.ts e ++ [⟨e, i, m + 1⟩] } : Rv) = putD r i e := by rw [Hr7.out]; unfold putD; rw [Hmt.out, Hm.out]
 rw [hrk] at k9
 have HD9 := hid k9
 have HA9 := hid a9
 clear k9 a9 hrk HQ
 have HFo := hid (HF.out wk X s9 HD9.out)
 have Hl9 : Hid ((putD r i e).u.length = 8 ∧ (putD r i e).d.length = 8 ∧ (putD r i e).c.length = 8) := hid ⟨HD9.out.dv.lu, HD9.out.dv.ld, HD9.out.dv.lc⟩
 have Hs9 : Hid ((dCells (putD r i e) s9).toArray.size = 29) := hid (by rw [List.size_toArray, dC_len Hl9.out.1 Hl9.out.2.1 Hl9.out.2.2])
 obtain ⟨L, HL⟩ : ∃ L, Hid (L = (setB (putC r.c i) es).length) := ⟨_, hid rfl⟩
 have HOw := hid (lt_of_heap HD.out.dv.blk)
 have HFn : Hid (Calls Tryz.prog 44 #[.pointer (some ⟨X, 0, none⟩)] wk fun x w' => ∃ s' : Sl, x = .returned (.slice s'.p L s'.c) ∧ Bf wk w' s' (setB (putC r.c i) es)) := hid (HFo.out.mono (fun x w' q => by obtain ⟨s', e', b'⟩ := q; exact ⟨s', by rw [e', b'.len, ← HL.out], b'⟩))
 have Hw : Hid (¬ 64 < L) := hid (by rw [HL.out]; exact Hw0.out)
 have hn : ((L : Nat) : Int) ≤ 64 := by have := Hw.out; omega
 rename_i aK
 refine aK _ _ ?_
 clear aK
 obtain ⟨rp, Hrp⟩ : ∃ rp, Hid (rp = putD r i e) := ⟨_, hid rfl⟩
 have Hs9r : Hid ((dCells rp s9).toArray.size = 29) := hid (by rw [Hrp.out]; exact Hs9.out)
 clear hk hi Hi HF Hw0 HFo Hl Hm Hmt Hlr hm HXw HOX HA5 Hs6n h2 h3 h8 Hi8 hx HA7 HN7 Hr7 Hl7 Hcm Hs6 HB7 Hl9 Hs9 Hw HL HOw
 go_upto_region 11 with (
  go_at_call 44
  refine HFn.out.mono ?_
  rintro _ wf ⟨sf, rfl, bf⟩
  have HBf := hid bf
  clear bf)
 have HDf : Hid (Dk wf X rp s9) := hid (by rw [Hrp.out]; exact HD9.out.kept0 HBf.out.nw.ap)
 have HAf := hid (HA9.out.trans HBf.out.nw.ap)
 have HOf := hid (HD.out.kept0 HAf.out)
 have HDo : Hid (Dk (wf.setRow O (dCells rp s9).toArray) O rp s9) := hid (HDf.out.put3 HOf.out.dv.blk)
 have HAo : Hid (Apart [O] w (wf.setRow O (dCells rp s9).toArray)) := hid ((HAf.out.mono (by simp)).trans (apart_setRow _ O _))
 go_wp2_with (first
  | refine wpList_load_row rfl 63 _ rfl X rfl 63 _ (0, 0) _ HDf.out.dv.blk Tryz.underlying63 rfl (by rw [size63, Hs9r.out]) ?_
  | refine wpList_store_row rfl 63 _ _ rfl O (dCells rp s9).toArray rfl rfl 63 _ HOf.out.dv.blk (by rw [size63, Hs9r.out]) (by rw [Hs9r.out, Hs29.out]) dC_all ?_)
 go_ret
 exact ⟨rfl, HAo.out, s9, by rw [← Hrp.out]; exact HDo.out⟩
end Go.Proofs.YtdbeeikjngnnnaaGreat.ty
