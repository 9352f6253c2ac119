import Derived.Test.YtdbeeikjngnnnaaG42
namespace Go.Proofs.Ytdbeeikjngnnnaa.ty
open Go.ChangeShapes Go.WideShapes Go.ChangeAt Go.RowKit
set_option linter.unusedVariables false
set_option linter.unusedSimpArgs false
set_option maxHeartbeats 8000000 in
set_option maxRecDepth 100000 in
theorem act2t {w0 w : World} {X : Nat} {H : List Dn} {c : Nat → Nat → Nat} {P : Nat → Nat} {V : Nat → Vl} {s : Sl} (h : Hm w0 w X 2 H c P V s) (g : Wr 2 H c V) (hl : H.length < 60) (ek A B By : Int) (hA : R64 A) (hB : R64 B) (hBy : R64 By) (htk : (bits BinOp.and IntKind.i64 By 1 == 1) = true) : Calls Try.prog 27 #[.pointer (some ⟨X, 0, none⟩), .agg #[.int .i64 ek, .int .i64 A, .int .i64 B, .int .i64 By]] w fun r w' => ∃ H' c' V' s', r = .returned (.bool true) ∧ Hm w0 w' X 2 H' c' P V' s' ∧ Wr 2 H' c' V' ∧ H'.length = H.length + 1 := by
  have HM := hid h
  have HG := hid g
  have Hlen := hid hl
  obtain ⟨i, Hi⟩ : ∃ i, Hid (i = wth A 4) := ⟨_, hid rfl⟩
  have hi : i < 4 := by rw [Hi.out]; exact wth_lt A (by omega)
  obtain ⟨el, Hel⟩ : ∃ i, Hid (i = wth B 3) := ⟨_, hid rfl⟩
  have hel : el < 3 := by rw [Hel.out]; exact wth_lt B (by omega)
  have HCA := hid (fun wx => within_law A 4 (by omega) (by omega) hA wx)
  have HCB := hid (fun wx => within_law B 3 (by omega) (by omega) hB wx)
  have HCy := hid (fun wx => within_law By 2001 (by omega) (by omega) hBy wx)
  rw [← Hi.out] at HCA
  rw [← Hel.out] at HCB
  clear h g hl hA hB hBy
  go_enter Try.func27, Try.ntmps27
  go_upto_region 2 with (go_at_call 25; refine (HCA.out _).mono ?_; rintro _ wn ⟨rfl, hwn⟩; rw [hwn]; clear hwn)
  obtain ⟨E, HE⟩ : ∃ E, Hid (E = w.heap.size) := ⟨_, hid rfl⟩
  have HEb : Hid ((w.alloc (.cells #[.int .i64 ek, .int .i64 A, .int .i64 B, .int .i64 By] 58)).heap[E]? = some (.cells #[.int .i64 ek, .int .i64 A, .int .i64 B, .int .i64 By] 58 (0, 0))) := hid (by rw [HE.out]; exact heap_alloc_new w _)
  have HX0 : Hid (Hx w0 (w.alloc (.cells #[.int .i64 ek, .int .i64 A, .int .i64 B, .int .i64 By] 58)) X 2 (fun i p => se H (c i) p) P V s (rowsL H H) H.length) := hid (HM.out.hx.kept0 ((Apart.refl [] w).alloc _))
  rw [← HE.out]
  generalize w.alloc (.cells #[.int .i64 ek, .int .i64 A, .int .i64 B, .int .i64 By] 58) = w1 at *
  obtain ⟨f1, Hf1⟩ : ∃ f1, Hid (f1 = bits BinOp.and IntKind.i64 By 1) := ⟨_, hid rfl⟩
  obtain ⟨tk0, Htk⟩ : ∃ b, Hid (b = (f1 == 1)) := ⟨_, hid rfl⟩
  have HZy : Hid (w1.cell? ⟨E, 3, none⟩ = some (.int .i64 By)) := hid (by rw [cell_of_row _ _ _ _ _ _ HEb.out]; rfl)
  have HZb : Hid (w1.cell? ⟨E, 2, none⟩ = some (.int .i64 B)) := hid (by rw [cell_of_row _ _ _ _ _ _ HEb.out]; rfl)
  have HEl : Hid (E < w1.heap.size) := hid (lt_of_heap HEb.out)
  have HXl : Hid (X < w1.heap.size) := hid (lt_of_heap HX0.out.blk)
  have HBi : Hid (∀ W, Apart [] w1 W → W.rangeAt X (6 + i * 64) (fB (se H (c i)))) := hid (fun W a => (HX0.out.kept0 a).bits hi)
  clear HM
  go_cut [6] from 11 to 26 (fun v6 wx => ∃ D, v6 = .pointer (some ⟨D, 0, none⟩) ∧ w1.heap.size ≤ D ∧ wx.heap[D]? = some (.cells (dC By (el : Int) tk0 ⟨#[]⟩ (se H (c i))).toArray 79 (0, 0)) ∧ Apart [] w1 wx)
  · skip
    have hAd : Apart [] w1 w1.drew := (Apart.refl [] w1).drew
    refine wp_region_held_drew (S := fun W => Apart [] w1 W) (by kernel_rfl) hAd (fun hHeld => ?_)
    generalize w1.drew = wd at *
    clear hAd
    refine tk 0 11 (.pointer (some ⟨E, 3, none⟩)) rfl ?_ ?_
    · intro W hSW; go_simp
    simp only [Act.put, List.setIfInBounds_toArray, List.set_cons_zero, List.set_cons_succ]
    refine tk 1 12 (.int .i64 By) rfl ?_ ?_
    · intro W hSW; have z := (hSW.cell (p := ⟨E, 3, none⟩) HEl.out (by simp)).trans HZy.out; go_simp
    simp only [Act.put, List.setIfInBounds_toArray, List.set_cons_zero, List.set_cons_succ]
    refine tk 2 13 (.pointer (some ⟨E, 2, none⟩)) rfl ?_ ?_
    · intro W hSW; go_simp
    simp only [Act.put, List.setIfInBounds_toArray, List.set_cons_zero, List.set_cons_succ]
    refine tk 3 14 (.int .i64 B) rfl ?_ ?_
    · intro W hSW; have z := (hSW.cell (p := ⟨E, 2, none⟩) HEl.out (by simp)).trans HZb.out; go_simp
    simp only [Act.put, List.setIfInBounds_toArray, List.set_cons_zero, List.set_cons_succ]
    refine tk 5 16 (.pointer (some ⟨E, 3, none⟩)) rfl ?_ ?_
    · intro W hSW; go_simp
    simp only [Act.put, List.setIfInBounds_toArray, List.set_cons_zero, List.set_cons_succ]
    refine tk 6 17 (.int .i64 By) rfl ?_ ?_
    · intro W hSW; have z := (hSW.cell (p := ⟨E, 3, none⟩) HEl.out (by simp)).trans HZy.out; go_simp
    simp only [Act.put, List.setIfInBounds_toArray, List.set_cons_zero, List.set_cons_succ]
    refine tk 7 18 (.int .i64 f1) rfl ?_ ?_
    · intro W hSW; rw [Hf1.out]; go_simp
    simp only [Act.put, List.setIfInBounds_toArray, List.set_cons_zero, List.set_cons_succ]
    refine tk 8 19 (.bool tk0) rfl ?_ ?_
    · intro W hSW; rw [Htk.out]; go_simp
    simp only [Act.put, List.setIfInBounds_toArray, List.set_cons_zero, List.set_cons_succ]
    refine tk 9 20 (.pointer (some ⟨X, 0, none⟩)) rfl ?_ ?_
    · intro W hSW; go_simp
    simp only [Act.put, List.setIfInBounds_toArray, List.set_cons_zero, List.set_cons_succ]
    refine tk 10 21 (.int .i64 (i : Nat)) rfl ?_ ?_
    · intro W hSW; go_simp
    simp only [Act.put, List.setIfInBounds_toArray, List.set_cons_zero, List.set_cons_succ]
    refine tk 11 22 (.pointer (some ⟨X, 0, none⟩)) rfl ?_ ?_
    · intro W hSW; go_simp
    simp only [Act.put, List.setIfInBounds_toArray, List.set_cons_zero, List.set_cons_succ]
    refine tk 12 23 (.pointer (some ⟨X, 6, none⟩)) rfl ?_ ?_
    · intro W hSW; go_simp
    simp only [Act.put, List.setIfInBounds_toArray, List.set_cons_zero, List.set_cons_succ]
    refine tk 13 24 (.pointer (some ⟨X, 6 + i * 64, none⟩)) rfl ?_ ?_
    · intro W hSW; have hi4 : ¬ (4 : Int) ≤ (i : Int) := (by omega); go_simp
    simp only [Act.put, List.setIfInBounds_toArray, List.set_cons_zero, List.set_cons_succ]
    refine tk 14 25 (.agg (fB (se H (c i))).toArray) rfl ?_ ?_
    · intro W hSW; exact ex_load53 _ rfl X (6 + i * 64) _ rfl (HBi.out W hSW) (fB_len _)
    simp only [Act.put, List.setIfInBounds_toArray, List.set_cons_zero, List.set_cons_succ]
    refine wpAnyH_ready (rs := [4, 16]) (by kernel_rfl) (by simp) ?_
    refine AllReadyH.cons rfl (fun KK hKK => ?_) (AllReadyH.cons rfl (fun KK hKK => ?_) AllReadyH.nil)
    · have hsz : Hid (w1.heap.size ≤ wd.heap.size) := hid hHeld.size
      go_simp
      refine (HCB.out _).mono ?_
      rintro _ wn ⟨rfl, hwn⟩
      rw [hwn]
      clear hwn
      try dsimp only
      refine hKK.out _ _ hHeld (fun hHeld => ?_)
      clear hKK KK
      try simp only [Act.put, List.setIfInBounds_toArray, List.set_cons_zero, List.set_cons_succ]
      refine tk 15 26 (.agg (dC By (el : Int) tk0 ⟨#[]⟩ (se H (c i))).toArray) rfl ?_ ?_
      · intro W hSW; exact ex_build79 _ _ _ _ rfl rfl rfl rfl rfl
      simp only [Act.put, List.setIfInBounds_toArray, List.set_cons_zero, List.set_cons_succ]
      refine wpAnyH_ready (rs := [16]) (by kernel_rfl) (by simp) ?_
      refine AllReadyH.cons rfl (fun KK hKK => ?_) AllReadyH.nil
      go_simp
      refine hKK.out _ _ (hHeld.alloc _) (fun hHeld => ?_)
      clear hKK KK
      try simp only [Act.put, List.setIfInBounds_toArray, List.set_cons_zero, List.set_cons_succ]
      refine wpAnyH_ready (rs := [17]) (by kernel_rfl) (by simp) ?_
      refine AllReadyH.cons rfl (fun KK hKK => ?_) AllReadyH.nil
      rw [if_pos (by rfl)]
      have HD0 := hid (heap_alloc_new wd (.cells (dC 0 0 false ⟨#[]⟩ (fun _ => false)).toArray 79))
      refine wp_store_row 79 _ _ rfl wd.heap.size (dC By (el : Int) tk0 ⟨#[]⟩ (se H (c i))).toArray rfl rfl 79 _ HD0.out (by rw [size79]; simp [dC_len]) (by simp [dC_len]) (all_oneCell_toArray (dC_one _ _ _ _ _)) ?_
      have hHa := hHeld.trans' (apart_setRow _ wd.heap.size (dC By (el : Int) tk0 ⟨#[]⟩ (se H (c i))).toArray) (by intro y hy; simp at hy; rw [hy]; exact .inr hsz.out)
      refine hKK.out _ _ hHa (fun hHeld => ?_)
      clear hKK KK
      try simp only [Act.put, List.setIfInBounds_toArray, List.set_cons_zero, List.set_cons_succ]
      refine wpAnyH_done (by kernel_rfl) ?_ _
      have HHE := hid hHeld
      clear hHeld hHa
      go_wp2_with fail
      go_meet
      exact ⟨_, rfl, hsz.out, setRow_heap _ _ _ _ _ _ HD0.out, HHE.out⟩
    · have hsz : Hid (w1.heap.size ≤ wd.heap.size) := hid hHeld.size
      go_simp
      refine hKK.out _ _ (hHeld.alloc _) (fun hHeld => ?_)
      clear hKK KK
      try simp only [Act.put, List.setIfInBounds_toArray, List.set_cons_zero, List.set_cons_succ]
      refine wpAnyH_ready (rs := [4]) (by kernel_rfl) (by simp) ?_
      refine AllReadyH.cons rfl (fun KK hKK => ?_) AllReadyH.nil
      go_simp
      refine (HCB.out _).mono ?_
      rintro _ wn ⟨rfl, hwn⟩
      rw [hwn]
      clear hwn
      try dsimp only
      refine hKK.out _ _ hHeld (fun hHeld => ?_)
      clear hKK KK
      try simp only [Act.put, List.setIfInBounds_toArray, List.set_cons_zero, List.set_cons_succ]
      refine tk 15 26 (.agg (dC By (el : Int) tk0 ⟨#[]⟩ (se H (c i))).toArray) rfl ?_ ?_
      · intro W hSW; exact ex_build79 _ _ _ _ rfl rfl rfl rfl rfl
      simp only [Act.put, List.setIfInBounds_toArray, List.set_cons_zero, List.set_cons_succ]
      refine wpAnyH_ready (rs := [17]) (by kernel_rfl) (by simp) ?_
      refine AllReadyH.cons rfl (fun KK hKK => ?_) AllReadyH.nil
      rw [if_pos (by rfl)]
      have HD0 := hid (heap_alloc_new wd (.cells (dC 0 0 false ⟨#[]⟩ (fun _ => false)).toArray 79))
      refine wp_store_row 79 _ _ rfl wd.heap.size (dC By (el : Int) tk0 ⟨#[]⟩ (se H (c i))).toArray rfl rfl 79 _ HD0.out (by rw [size79]; simp [dC_len]) (by simp [dC_len]) (all_oneCell_toArray (dC_one _ _ _ _ _)) ?_
      have hHa := hHeld.trans' (apart_setRow _ wd.heap.size (dC By (el : Int) tk0 ⟨#[]⟩ (se H (c i))).toArray) (by intro y hy; simp at hy; rw [hy]; exact .inr hsz.out)
      refine hKK.out _ _ hHa (fun hHeld => ?_)
      clear hKK KK
      try simp only [Act.put, List.setIfInBounds_toArray, List.set_cons_zero, List.set_cons_succ]
      refine wpAnyH_done (by kernel_rfl) ?_ _
      have HHE := hid hHeld
      clear hHeld hHa
      go_wp2_with fail
      go_meet
      exact ⟨_, rfl, hsz.out, setRow_heap _ _ _ _ _ _ HD0.out, HHE.out⟩
  obtain ⟨D, rfl, hDl, hDr, aD⟩ := hcut
  have HX1 := hid (HX0.out.kept0 aD)
  have HD1 : Hid (Dw w0 wc D s (dC By (el : Int) tk0 ⟨#[]⟩ (se H (c i)))) := hid ⟨hDr, Nat.le_trans HX0.out.ap.size hDl, HX0.out.own.lt hDl⟩
  have HZy2 : Hid (wc.cell? ⟨E, 3, none⟩ = some (.int .i64 By)) := hid ((aD.cell (p := ⟨E, 3, none⟩) HEl.out (by simp)).trans HZy.out)
  clear hDl hDr aD HX0 HZy HZb HEb HBi HCB
  have zk : wc.cell? ⟨X, 0, none⟩ = some (.int .i64 2) := HX1.out.kind
  obtain rfl : tk0 = true := by rw [Htk.out, Hf1.out]; exact htk
  have zt : wc.cell? ⟨D, 2, none⟩ = some (.bool true) := row_cell HD1.out.blk rfl
  go_upto_region 10 with fail
  clear zt zk
  have HXk := HX1
  have HDk := HD1
  clear HX1 HD1
  have HXl : Hid (X < wc.heap.size) := hid (lt_of_heap HXk.out.blk)
  have HDl : Hid (D < wc.heap.size) := hid (lt_of_heap HDk.out.blk)
  have HNe := hid (HXk.out.ne HDk.out hi)
  have HZv := hid (HXk.out.vcell hi)
  have HVi := hid (HXk.out.ho i hi)
  obtain ⟨Pi, HPi⟩ : ∃ x, Hid (x = P i) := ⟨_, hid rfl⟩
  rw [← HPi.out] at HNe HZv HVi
  have HZd : Hid (wc.cell? ⟨D, 1, none⟩ = some (.int .i64 (el : Int))) := hid (row_cell HDk.out.blk rfl)
  obtain ⟨d, Hd⟩ : ∃ d : Dn, Hid (d = ⟨i, By, el, true, ⟨#[]⟩, (H.length : Int) + 1, c i⟩) := ⟨_, hid rfl⟩
  have Hd1 : Hid (d.act = i ∧ d.by_ = By ∧ d.vc = c i ∧ drow H d = dC By (el : Int) true ⟨#[]⟩ (se H (c i))) := hid (by rw [Hd.out]; exact ⟨rfl, rfl, rfl, rfl⟩)
  have HAct : Hid (∃ x, takeR (V i) (elB el) = (0, x) ∧ Wr 2 (H ++ [d]) (ud c d.act (ty.up (c d.act) d.act (H.length + 1))) (ud V d.act x)) := hid (by
    obtain ⟨u, e, hv⟩ : ∃ u e, V i = .set u e := by
      have := HG.out.kd i hi
      cases hx : V i using Vl.el with
      | cnt u d => rw [hx] at this; cases this
      | set u e => exact ⟨u, e, rfl⟩
      | flg u e => rw [hx] at this; cases this
      | rgs u e f => rw [hx] at this; cases this
    have hr := HG.out.rel i hi
    have hlt := Hlen.out
    rw [hv] at hr
    have ha : d.act < 4 := by rw [Hd1.out.1]; exact hi
    have hst : ∀ (q : Nat) (e : Dn), H[q]? = some e → q < c d.act e.act → e.st < d.st := by
      intro q e he _
      have h1 := (HG.out.hk.st q e he).2
      have h2 := at_lt he
      have h3 : d.st = (H.length : Int) + 1 := by rw [Hd.out]
      omega
    rw [← Hd1.out.1] at hr
    have hvc : d.vc = c d.act := by rw [Hd1.out.2.2.1, Hd1.out.1]
    obtain ⟨x, h1, h2, h3⟩ := act_take (d := d) hr (HG.out.vc _ ha) ha (HG.out.own _ ha) hvc (by rw [Hd.out]; exact hel) (by rw [Hd.out])
    refine ⟨x, by rw [hv]; rw [← h1, Hd.out], HG.out.act ha hvc hst ?_ h2 h3⟩
    exact HG.out.hk.push (fun k => by omega) (by rw [Hd.out]; exact hel) (fun k => by first | omega | (rw [Hd.out])) (by rw [Hd.out]; simp only; omega) (fun k => by first | omega | (rw [Hd.out]; decide)))
  obtain ⟨x, hx1, hx2⟩ := HAct.out
  have HW := hid hx2
  have HCv := hid (fun wx (hh : Ho wx Pi (V i)) (sl : Sl) (hb : Bq wx sl (elB el)) => Take_v hh ((HG.out.gk (by have := Hlen.out; omega) hi).ok) hb.rd hb.len hb.ok)
  rw [hx1] at HCv
  clear HAct hx1 hx2 HCA HCy
  have hAd : Apart [Pi] wc wc.drew := (Apart.refl [Pi] wc).drew
  refine wp_region_held_drew (S := fun W => Apart [Pi] wc W) (by kernel_rfl) hAd (fun hHeld => ?_)
  have HVd0 : Ho wc.drew Pi (V i) := HVi.out.kept0 (Apart.refl [] wc).drew
  have HXd : Hid (Hx w0 wc.drew X 2 (fun i p => se H (c i) p) P V s (rowsL H H) H.length) := hid (HXk.out.kept0 (Apart.refl [] wc).drew)
  have HDd : Hid (Dw w0 wc.drew D s (drow H d)) := hid (by rw [Hd1.out.2.2.2]; exact HDk.out.kept0 (Apart.refl [] wc).drew)
  generalize wc.drew = wd at *
  clear hAd
  refine tk 0 52 (.pointer (some ⟨X, 0, none⟩)) rfl ?_ ?_
  · intro W hSW; go_simp
  simp only [Act.put, List.setIfInBounds_toArray, List.set_cons_zero, List.set_cons_succ]
  refine tk 1 53 (.int .i64 (i : Nat)) rfl ?_ ?_
  · intro W hSW; go_simp
  simp only [Act.put, List.setIfInBounds_toArray, List.set_cons_zero, List.set_cons_succ]
  refine tk 2 54 (.pointer (some ⟨X, 0, none⟩)) rfl ?_ ?_
  · intro W hSW; go_simp
  simp only [Act.put, List.setIfInBounds_toArray, List.set_cons_zero, List.set_cons_succ]
  refine tk 3 55 (.pointer (some ⟨X, 1, none⟩)) rfl ?_ ?_
  · intro W hSW; go_simp
  simp only [Act.put, List.setIfInBounds_toArray, List.set_cons_zero, List.set_cons_succ]
  refine tk 4 56 (.pointer (some ⟨X, 1 + i, none⟩)) rfl ?_ ?_
  · intro W hSW; have hi4 : ¬ (4 : Int) ≤ (i : Int) := (by omega); go_simp
  simp only [Act.put, List.setIfInBounds_toArray, List.set_cons_zero, List.set_cons_succ]
  refine tk 5 57 (.pointer (some ⟨Pi, 0, none⟩)) rfl ?_ ?_
  · intro W hSW; have z := (hSW.cell (p := ⟨X, 1 + i, none⟩) HXl.out (by simp; exact HNe.out.2.1)).trans HZv.out; go_simp
  simp only [Act.put, List.setIfInBounds_toArray, List.set_cons_zero, List.set_cons_succ]
  refine tk 6 58 (.pointer (some ⟨D, 1, none⟩)) rfl ?_ ?_
  · intro W hSW; go_simp
  simp only [Act.put, List.setIfInBounds_toArray, List.set_cons_zero, List.set_cons_succ]
  refine tk 7 59 (.int .i64 (el : Nat)) rfl ?_ ?_
  · intro W hSW; have z := (hSW.cell (p := ⟨D, 1, none⟩) HDl.out (by simp; exact HNe.out.1)).trans HZd.out; go_simp
  simp only [Act.put, List.setIfInBounds_toArray, List.set_cons_zero, List.set_cons_succ]
  refine wpAnyH_ready (rs := [8]) (by kernel_rfl) (by simp) ?_
  refine AllReadyH.cons rfl (fun KK hKK => ?_) AllReadyH.nil
  go_simp
  refine (element_ok _ el hel).mono ?_
  rintro _ w4 ⟨sl, rfl, b4, a4⟩
  have hHx := hHeld.trans (a4.mono (by simp))
  have HB4 := hid b4
  have HV4 := hid (HVd0.kept0 a4)
  have HX4 := hid (HXd.out.kept0 a4)
  have HD4 := hid (HDd.out.kept0 a4)
  clear b4 a4
  try dsimp only
  refine hKK.out _ _ hHx (fun hHeld => ?_)
  clear hKK KK
  try simp only [Act.put, List.setIfInBounds_toArray, List.set_cons_zero, List.set_cons_succ]
  refine wpAnyH_ready (rs := [9]) (by kernel_rfl) (by simp) ?_
  refine AllReadyH.cons rfl (fun KK hKK => ?_) AllReadyH.nil
  go_simp
  refine (HCv.out _ HV4.out _ HB4.out).mono ?_
  rintro _ w5 ⟨rfl, o5, a5⟩
  have hHx := hHeld.trans a5
  have HO5 := hid o5
  have HA5 := hid a5
  clear o5
  try dsimp only
  refine hKK.out _ _ hHx (fun hHeld => ?_)
  clear hKK KK
  try simp only [Act.put, List.setIfInBounds_toArray, List.set_cons_zero, List.set_cons_succ]
  refine tk 10 7 (.int .i64 0) rfl ?_ ?_
  · intro W hSW; go_simp
  simp only [Act.put, List.setIfInBounds_toArray, List.set_cons_zero, List.set_cons_succ]
  refine wpAnyH_done (by kernel_rfl) ?_ _
  clear HXd HDd HVd0
  have HXd := HX4
  have HDd := HD4
  have HVd := HV4
  have HVd0 := HB4
  clear HX4 HD4 HV4 HB4
  have HXv : Hid (Hx w0 w5 X 2 (fun i p => se H (c i) p) P (ud V i x) s (rowsL H H) H.length) := hid (HXd.out.val hi (by rw [← HPi.out]; exact HA5.out) (by rw [← HPi.out]; exact HO5.out))
  have HDv : Hid (Dw w0 w5 D s (drow H d)) := hid (HDd.out.keepB HA5.out HNe.out.1)
  clear HXk HDk HXd HDd HVi HZv HXl HDl HA5 HO5 HVd HVd0 HCv hHeld a5
  go_upto_region 20 with fail
  have hs60 : s.n < 60 := by rw [HXv.out.len]; exact Hlen.out
  have HXl : Hid (X < w5.heap.size) := hid (lt_of_heap HXv.out.blk)
  have HXd : Hid (Hx w0 w5.drew X 2 (fun i p => se H (c i) p) P (ud V i x) s (rowsL H H) H.length) := hid (HXv.out.kept0 (Apart.refl [] w5).drew)
  have HDd : Hid (Dw w0 w5.drew D s (drow H d)) := hid (HDv.out.kept0 (Apart.refl [] w5).drew)
  have hAd : w5.drew.cell? ⟨X, 5, none⟩ = some (.slice s.p s.n s.c) := HXd.out.all
  refine wp_region_held_drew (S := fun W => W.cell? ⟨X, 5, none⟩ = some (.slice s.p s.n s.c)) (by kernel_rfl) hAd (fun hHeld => ?_)
  generalize w5.drew = wd at *
  clear hAd HXv HDv
  refine tk 0 113 (.pointer (some ⟨X, 0, none⟩)) rfl ?_ ?_
  · intro W hSW; go_simp
  simp only [Act.put, List.setIfInBounds_toArray, List.set_cons_zero, List.set_cons_succ]
  refine tk 1 114 (.int .i64 (i : Nat)) rfl ?_ ?_
  · intro W hSW; go_simp
  simp only [Act.put, List.setIfInBounds_toArray, List.set_cons_zero, List.set_cons_succ]
  refine tk 2 115 (.pointer (some ⟨X, 0, none⟩)) rfl ?_ ?_
  · intro W hSW; go_simp
  simp only [Act.put, List.setIfInBounds_toArray, List.set_cons_zero, List.set_cons_succ]
  refine tk 3 116 (.pointer (some ⟨X, 0, none⟩)) rfl ?_ ?_
  · intro W hSW; go_simp
  simp only [Act.put, List.setIfInBounds_toArray, List.set_cons_zero, List.set_cons_succ]
  refine tk 4 117 (.pointer (some ⟨X, 5, none⟩)) rfl ?_ ?_
  · intro W hSW; go_simp
  simp only [Act.put, List.setIfInBounds_toArray, List.set_cons_zero, List.set_cons_succ]
  refine tk 5 118 (.slice s.p s.n s.c) rfl ?_ ?_
  · intro W hSW; have z := hSW; go_simp
  simp only [Act.put, List.setIfInBounds_toArray, List.set_cons_zero, List.set_cons_succ]
  refine tk 6 119 (.int .i64 (s.n : Nat)) rfl ?_ ?_
  · intro W hSW; go_simp
  simp only [Act.put, List.setIfInBounds_toArray, List.set_cons_zero, List.set_cons_succ]
  refine tk 7 120 (.pointer (some ⟨X, 0, none⟩)) rfl ?_ ?_
  · intro W hSW; go_simp
  simp only [Act.put, List.setIfInBounds_toArray, List.set_cons_zero, List.set_cons_succ]
  refine tk 8 121 (.pointer (some ⟨X, 6, none⟩)) rfl ?_ ?_
  · intro W hSW; go_simp
  simp only [Act.put, List.setIfInBounds_toArray, List.set_cons_zero, List.set_cons_succ]
  refine tk 9 122 (.pointer (some ⟨X, 6 + i * 64, none⟩)) rfl ?_ ?_
  · intro W hSW; have hi4 : ¬ (4 : Int) ≤ (i : Int) := (by omega); go_simp
  simp only [Act.put, List.setIfInBounds_toArray, List.set_cons_zero, List.set_cons_succ]
  refine tk 10 123 (.pointer (some ⟨X, 6 + i * 64 + s.n, none⟩)) rfl ?_ ?_
  · intro W hSW; have hs4 : ¬ (64 : Int) ≤ (s.n : Int) := (by omega); go_simp
  simp only [Act.put, List.setIfInBounds_toArray, List.set_cons_zero, List.set_cons_succ]
  have zb : wd.cell? ⟨X, 6 + i * 64 + s.n, none⟩ = some (.bool (se H (c i) s.n)) := row_cell HXd.out.blk (hrow_b _ _ _ _ hi (by omega))
  have fb := frozen_of_row _ _ (6 + i * 64 + s.n) _ _ HXd.out.blk
  have HXe : Hid (Hx w0 (wd.setCell ⟨X, 6 + i * 64 + s.n, none⟩ (.bool true)) X 2 (ub (fun i p => se H (c i) p) i s.n true) P (ud V i x) s (rowsL H H) H.length) := hid (HXd.out.bit hi (by omega) true)
  have HDe : Hid (Dw w0 (wd.setCell ⟨X, 6 + i * 64 + s.n, none⟩ (.bool true)) D s (drow H d)) := hid (HDd.out.keepB ((Apart.refl [X] wd).setCell (.inl (by simp)) _) HNe.out.2.2)
  refine wpAnyH_ready (rs := [11]) (by kernel_rfl) (by simp) ?_
  refine AllReadyH.cons rfl (fun KK hKK => ?_) AllReadyH.nil
  go_simp
  refine hKK.out _ _ HXe.out.all (fun hHeld => ?_)
  clear hKK KK zb fb
  try simp only [Act.put, List.setIfInBounds_toArray, List.set_cons_zero, List.set_cons_succ]
  refine wpAnyH_done (by kernel_rfl) ?_ _
  generalize wd.setCell ⟨X, 6 + i * 64 + s.n, none⟩ (.bool true) = we at *
  clear HXd HDd hHeld HXl
  go_upto_region 21 with fail
  have HXf : Hid (Hx w0 we.drew X 2 (ub (fun i p => se H (c i) p) i s.n true) P (ud V i x) s (rowsL H H) H.length) := hid (HXe.out.kept0 (Apart.refl [] we).drew)
  have HDf : Hid (Dw w0 we.drew D s (drow H d)) := hid (HDe.out.kept0 (Apart.refl [] we).drew)
  obtain ⟨rw_, Hrw⟩ : ∃ r, Hid (r = drow H d) := ⟨_, hid rfl⟩
  have Hrc : Hid (rw_ = dC d.by_ (d.el : Int) d.tk d.tx (se H d.vc)) := hid (by rw [Hrw.out]; rfl)
  rw [← Hrw.out] at HDf
  have hAd : we.drew.heap[D]? = some (.cells rw_.toArray 79 (0, 0)) := HDf.out.blk
  refine wp_region_held_drew (S := fun W => W.heap[D]? = some (.cells rw_.toArray 79 (0, 0))) (by kernel_rfl) hAd (fun hHeld => ?_)
  generalize we.drew = wf at *
  clear hAd HXe HDe
  refine tk 0 124 (.pointer (some ⟨X, 0, none⟩)) rfl ?_ ?_
  · intro W hSW; go_simp
  simp only [Act.put, List.setIfInBounds_toArray, List.set_cons_zero, List.set_cons_succ]
  refine tk 1 125 (.pointer (some ⟨X, 0, none⟩)) rfl ?_ ?_
  · intro W hSW; go_simp
  simp only [Act.put, List.setIfInBounds_toArray, List.set_cons_zero, List.set_cons_succ]
  refine tk 2 126 (.pointer (some ⟨X, 0, none⟩)) rfl ?_ ?_
  · intro W hSW; go_simp
  simp only [Act.put, List.setIfInBounds_toArray, List.set_cons_zero, List.set_cons_succ]
  refine tk 3 127 (.pointer (some ⟨X, 5, none⟩)) rfl ?_ ?_
  · intro W hSW; go_simp
  simp only [Act.put, List.setIfInBounds_toArray, List.set_cons_zero, List.set_cons_succ]
  refine tk 5 129 (.agg rw_.toArray) rfl ?_ ?_
  · intro W hSW; exact ex_load79 _ rfl D 0 _ rfl (row_range hSW) (by rw [Hrc.out]; exact dC_len _ _ _ _ _)
  simp only [Act.put, List.setIfInBounds_toArray, List.set_cons_zero, List.set_cons_succ]
  obtain ⟨s9, w9, hrun, n9, l9, t9, b9⟩ := app79b HXf.out.own (show rw_.length = 68 by rw [Hrc.out]; exact dC_len _ _ _ _ _) (by rw [Hrc.out]; exact dC_one _ _ _ _ _) (by omega)
  have HR9 := hid hrun
  have HD9 : Hid (w9.heap[D]? = some (.cells rw_.toArray 79 (0, 0))) := hid ((b9.block D (lt_of_heap HDf.out.blk) HDf.out.no).trans HDf.out.blk)
  have HB9 := hid (t9.block HXf.out.blk (by simp))
  have HT9 := hid t9
  have HN9 := hid n9
  have Hl9 := hid l9
  clear hrun n9 l9 t9 b9
  refine wpAnyH_ready (rs := [4, 6]) (by kernel_rfl) (by simp) ?_
  refine AllReadyH.cons rfl (fun KK hKK => ?_) (AllReadyH.cons rfl (fun KK hKK => ?_) AllReadyH.nil)
  · skip
    have z4 := row_cell HXf.out.blk (hrow_s 2 (fun i => .pointer (some ⟨P i, 0, none⟩)) s (ub (fun i p => se H (c i) p) i s.n true))
    go_simp
    refine hKK.out _ _ hHeld (fun hHeld => ?_)
    clear hKK KK z4
    try simp only [Act.put, List.setIfInBounds_toArray, List.set_cons_zero, List.set_cons_succ]
    refine wpAnyH_ready (rs := [6]) (by kernel_rfl) (by simp) ?_
    refine AllReadyH.cons rfl (fun KK hKK => ?_) AllReadyH.nil
    rw [if_pos (by rfl)]
    refine wp_bs79 (b := d.by_) (e := (d.el : Int)) (t := d.tk) (x := d.tx) (f := se H d.vc) _ rfl (by rw [← Hrc.out]; rfl) ?_
    rw [← Hrc.out]
    refine hKK.out _ _ (heap_push hHeld) (fun hHeld => ?_)
    clear hKK KK
    try simp only [Act.put, List.setIfInBounds_toArray, List.set_cons_zero, List.set_cons_succ]
    refine wpAnyH_ready (rs := [7]) (by kernel_rfl) (by simp) ?_
    refine AllReadyH.cons rfl (fun KK hKK => ?_) AllReadyH.nil
    refine step_app2 rfl _ _ 52 52 rfl _ _ rfl rfl (.slice s9.p s9.n s9.c) w9 HR9.out ?_
    refine hKK.out _ _ HD9.out (fun hHeld => ?_)
    clear hKK KK HR9
    try simp only [Act.put, List.setIfInBounds_toArray, List.set_cons_zero, List.set_cons_succ]
    refine tk 8 132 (.pointer (some ⟨X, 0, none⟩)) rfl ?_ ?_
    · intro W hSW; go_simp
    simp only [Act.put, List.setIfInBounds_toArray, List.set_cons_zero, List.set_cons_succ]
    refine tk 9 133 (.pointer (some ⟨X, 5, none⟩)) rfl ?_ ?_
    · intro W hSW; go_simp
    simp only [Act.put, List.setIfInBounds_toArray, List.set_cons_zero, List.set_cons_succ]
    refine wpAnyH_ready (rs := [10]) (by kernel_rfl) (by simp) ?_
    refine AllReadyH.cons rfl (fun KK hKK => ?_) AllReadyH.nil
    have z9 := row_cell HB9.out (hrow_s 2 (fun i => .pointer (some ⟨P i, 0, none⟩)) s (ub (fun i p => se H (c i) p) i s.n true))
    have f9 := frozen_of_row _ _ 5 _ _ HB9.out
    go_simp
    refine hKK.out _ _ (keepB ((Apart.refl [X] w9).setCell (p := ⟨X, 5, none⟩) (.inl (by simp)) _) HD9.out HNe.out.2.2) (fun hHeld => ?_)
    clear hKK KK z9 f9 hHeld
    try simp only [Act.put, List.setIfInBounds_toArray, List.set_cons_zero, List.set_cons_succ]
    refine wpAnyH_done (by kernel_rfl) ?_ _
    go_wp2_with fail
    go_ret
    refine ⟨H ++ [d], ud c i (ty.up (c i) i (H.length + 1)), ud V i x, s9, rfl, ?_, ?_, by simp⟩
    · have h1 := HXf.out
      have h2 : s.n = H.length := h1.len
      rw [h2] at h1
      have h3 := HN9.out
      rw [Hrw.out] at h3
      have h4 := act_end (d := d) HG.out (by rw [Hd1.out.1]; exact hi) (by rw [Hd1.out.2.2.1, Hd1.out.1]) (by rw [Hd1.out.1]; exact h1) HT9.out h3 Hl9.out
      rw [Hd1.out.1] at h4
      exact h4
    · have h5 := HW.out
      rw [Hd1.out.1] at h5
      exact h5
  · skip
    rw [if_pos (by rfl)]
    refine wp_bs79 (b := d.by_) (e := (d.el : Int)) (t := d.tk) (x := d.tx) (f := se H d.vc) _ rfl (by rw [← Hrc.out]; rfl) ?_
    rw [← Hrc.out]
    refine hKK.out _ _ (heap_push hHeld) (fun hHeld => ?_)
    clear hKK KK
    try simp only [Act.put, List.setIfInBounds_toArray, List.set_cons_zero, List.set_cons_succ]
    refine wpAnyH_ready (rs := [4]) (by kernel_rfl) (by simp) ?_
    refine AllReadyH.cons rfl (fun KK hKK => ?_) AllReadyH.nil
    have z4 := row_cell (heap_push (o := .cells rw_.toArray 79) HXf.out.blk) (hrow_s 2 (fun i => .pointer (some ⟨P i, 0, none⟩)) s (ub (fun i p => se H (c i) p) i s.n true))
    go_simp
    refine hKK.out _ _ hHeld (fun hHeld => ?_)
    clear hKK KK z4
    try simp only [Act.put, List.setIfInBounds_toArray, List.set_cons_zero, List.set_cons_succ]
    refine wpAnyH_ready (rs := [7]) (by kernel_rfl) (by simp) ?_
    refine AllReadyH.cons rfl (fun KK hKK => ?_) AllReadyH.nil
    refine step_app2 rfl _ _ 52 52 rfl _ _ rfl rfl (.slice s9.p s9.n s9.c) w9 HR9.out ?_
    refine hKK.out _ _ HD9.out (fun hHeld => ?_)
    clear hKK KK HR9
    try simp only [Act.put, List.setIfInBounds_toArray, List.set_cons_zero, List.set_cons_succ]
    refine tk 8 132 (.pointer (some ⟨X, 0, none⟩)) rfl ?_ ?_
    · intro W hSW; go_simp
    simp only [Act.put, List.setIfInBounds_toArray, List.set_cons_zero, List.set_cons_succ]
    refine tk 9 133 (.pointer (some ⟨X, 5, none⟩)) rfl ?_ ?_
    · intro W hSW; go_simp
    simp only [Act.put, List.setIfInBounds_toArray, List.set_cons_zero, List.set_cons_succ]
    refine wpAnyH_ready (rs := [10]) (by kernel_rfl) (by simp) ?_
    refine AllReadyH.cons rfl (fun KK hKK => ?_) AllReadyH.nil
    have z9 := row_cell HB9.out (hrow_s 2 (fun i => .pointer (some ⟨P i, 0, none⟩)) s (ub (fun i p => se H (c i) p) i s.n true))
    have f9 := frozen_of_row _ _ 5 _ _ HB9.out
    go_simp
    refine hKK.out _ _ (keepB ((Apart.refl [X] w9).setCell (p := ⟨X, 5, none⟩) (.inl (by simp)) _) HD9.out HNe.out.2.2) (fun hHeld => ?_)
    clear hKK KK z9 f9 hHeld
    try simp only [Act.put, List.setIfInBounds_toArray, List.set_cons_zero, List.set_cons_succ]
    refine wpAnyH_done (by kernel_rfl) ?_ _
    go_wp2_with fail
    go_ret
    refine ⟨H ++ [d], ud c i (ty.up (c i) i (H.length + 1)), ud V i x, s9, rfl, ?_, ?_, by simp⟩
    · have h1 := HXf.out
      have h2 : s.n = H.length := h1.len
      rw [h2] at h1
      have h3 := HN9.out
      rw [Hrw.out] at h3
      have h4 := act_end (d := d) HG.out (by rw [Hd1.out.1]; exact hi) (by rw [Hd1.out.2.2.1, Hd1.out.1]) (by rw [Hd1.out.1]; exact h1) HT9.out h3 Hl9.out
      rw [Hd1.out.1] at h4
      exact h4
    · have h5 := HW.out
      rw [Hd1.out.1] at h5
      exact h5
end Go.Proofs.Ytdbeeikjngnnnaa.ty
