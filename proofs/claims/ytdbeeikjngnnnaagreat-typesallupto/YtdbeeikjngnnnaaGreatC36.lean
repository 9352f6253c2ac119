import Derived.Test.YtdbeeikjngnnnaaGreatC32
namespace Go.Proofs.YtdbeeikjngnnnaaGreat.ty
open Go.ChangeShapes Go.WideShapes Go.ChangeAt Go.RowKit
set_option linter.unusedVariables false
set_option linter.unusedSimpArgs false
set_option maxRecDepth 100000
set_option maxHeartbeats 8000000
theorem rwD_bd2 {bs : List Nat} (h8 : U8 bs) (mask : Nat) (a : Nat) (b : Bool) : ∀ i, ∀ x ∈ (rwD bs mask 2 false a b i).u, 0 ≤ x ∧ x < 65536
 | 0 => by simp [rwD]
 | i + 1 => by
  have h1 := rwD_bd2 h8 mask a b i
  have hn : ∀ q, 0 ≤ (dnum bs q 2 : Int) ∧ (dnum bs q 2 : Int) < 65536 := fun q => by
   have e1 := dnum_lt h8 q 2
   have e2 : 2 ^ (8 * 2) = 65536 := by decide
   omega
  have ap : ∀ {l : List Int} {z : Int}, (∀ x ∈ l, 0 ≤ x ∧ x < 65536) → (0 ≤ z ∧ z < 65536) → ∀ x ∈ l ++ [z], 0 ≤ x ∧ x < 65536 := fun {l z} hl hz x hx => by
   rcases List.mem_append.1 hx with hx | hx
   ·exact hl x hx
   ·rw [List.mem_singleton.1 hx]; exact hz
  unfold rwD rwS
  split
  ·simp only [Bool.false_eq_true, if_false]
   exact ap h1 (hn _)
  ·exact ap h1 (by omega)
theorem rowDD_cn {bs : List Nat} (h8 : U8 bs) (a : Nat) (b : Bool) : Cn (rowDD bs a b 2 false).u := Cn.of (rwD_len _ _ _ _ _ _ 8).1 (rwD_bd2 h8 _ _ _ 8)
theorem overB_false {c u : List Int} : ∀ {n : Nat}, (∀ i, i < n → u.getD i 0 ≤ c.getD i 0) → overB c u n = false
 | 0, _ => rfl
 | n + 1, h => by
  rw [overB_succ, overB_false (fun i hi => h i (by omega)), decide_eq_false (by have := h n (by omega); omega)]; rfl
theorem overB_le {c u : List Int} : ∀ {n : Nat}, overB c u n = false → ∀ i, i < n → u.getD i 0 ≤ c.getD i 0
 | 0, _, i, hi => by omega
 | n + 1, h, i, hi => by
  rw [overB_succ] at h
  obtain ⟨h1, h2⟩ := or_false h
  by_cases e : i = n
  ·subst e
   have := of_decide_eq_false h2
   omega
  ·exact overB_le h1 i (by omega)
/-! ### the tags of a row, as tags -/
theorem tagL_mem {e : ByteArray} {u : List Int} : ∀ {n : Nat} {t : Tg}, t ∈ tagL e u n → t.e = e ∧ t.a < n ∧ 0 < u.getD t.a 0 ∧ t.n = (u.getD t.a 0).toNat
 | 0, t, h => by simp [tagL] at h
 | n + 1, t, h => by
  rw [tagL_succ] at h
  split at h
  ·rename_i hp
   rcases List.mem_append.1 h with h | h
   ·obtain ⟨a, b, c, d⟩ := tagL_mem h
    exact ⟨a, by omega, c, d⟩
   ·rw [List.mem_singleton.1 h]; exact ⟨rfl, by simp, hp, rfl⟩
  ·obtain ⟨a, b, c, d⟩ := tagL_mem h
   exact ⟨a, by omega, c, d⟩
theorem tagL_one (e : ByteArray) (u : List Int) : ∀ n, (tagL e u n).Pairwise fun s t => ¬ (s.e = t.e ∧ s.a = t.a)
 | 0 => List.Pairwise.nil
 | n + 1 => by
  rw [tagL_succ]
  split
  ·refine List.pairwise_append.2 ⟨tagL_one e u n, List.pairwise_singleton _ _, fun s hs t ht => ?_⟩
   rw [List.mem_singleton.1 ht]
   have := (tagL_mem hs).2.1
   rintro ⟨-, h⟩
   simp only at h
   omega
  ·exact tagL_one e u n
theorem tagL_to (e : ByteArray) (u : List Int) : To (tagL e u 8) := ⟨fun t ht => by
 obtain ⟨-, a, b, c⟩ := tagL_mem ht
 exact ⟨a, by omega⟩, tagL_one e u 8⟩
theorem tagL_num (e : ByteArray) (u : List Int) (x : ByteArray) (a : Nat) : ∀ n, numT (tagL e u n) x a = if x = e ∧ a < n ∧ 0 < u.getD a 0 then (u.getD a 0).toNat else 0
 | 0 => by rw [if_neg (by omega)]; rfl
 | n + 1 => by
  have ih := tagL_num e u x a n
  rw [tagL_succ]
  split
  ·rename_i hp
   rw [numT_app]
   by_cases c : ∃ t ∈ tagL e u n, t.e = x ∧ t.a = a
   ·rw [if_pos c, ih]
    obtain ⟨t, ht, h1, h2⟩ := c
    obtain ⟨k1, k2, k3, k4⟩ := tagL_mem ht
    rw [h2] at k2 k3
    rw [if_pos ⟨h1.symm.trans k1, k2, k3⟩, if_pos ⟨h1.symm.trans k1, by omega, k3⟩]
   ·rw [if_neg c]
    unfold numT
    by_cases q : isT x a ⟨e, n, (u.getD n 0).toNat⟩ = true
    ·rw [if_pos q]
     obtain ⟨q1, q2⟩ := isT_iff.1 q
     simp only at q1 q2
     subst q2
     rw [if_pos ⟨q1.symm, by omega, hp⟩]
    ·rw [if_neg q]
     have hn : ¬ (x = e ∧ n = a) := fun k => q (isT_iff.2 ⟨k.1.symm, k.2⟩)
     have z : numT (tagL e u n) x a = 0 := by
      rcases numT_or (tagL e u n) x a with ⟨z, -⟩ | ⟨t, ht, z1, z2, -⟩
      ·exact z
      ·exact absurd ⟨t, ht, z1, z2⟩ c
     rw [ih] at z
     rw [show numT [] x a = 0 from rfl]
     by_cases k : x = e ∧ a < n + 1 ∧ 0 < u.getD a 0
     ·exfalso
      by_cases e2 : n = a
      ·exact hn ⟨k.1, e2⟩
      ·rw [if_pos ⟨k.1, by omega, k.2.2⟩] at z
       omega
     ·rw [if_neg k]
  ·rename_i hp
   rw [ih]
   by_cases k : x = e ∧ a < n ∧ 0 < u.getD a 0
   ·rw [if_pos k, if_pos ⟨k.1, by omega, k.2.2⟩]
   ·rw [if_neg k]
    by_cases k2 : x = e ∧ a < n + 1 ∧ 0 < u.getD a 0
    ·exfalso
     by_cases e2 : a = n
     ·rw [e2] at k2; exact hp k2.2.2
     ·exact k ⟨k2.1, by omega, k2.2.2⟩
    ·rw [if_neg k2]
theorem tagL_ts {u : List Int} (hl : u.length = 8) (h0 : ∀ i, i < 8 → 0 ≤ u.getD i 0) (e : ByteArray) : Ts (tagL e u 8) (fun x => if x = e then u else zr) := by
 refine ⟨tagL_to e u, fun x => ?_, fun x a ha => ?_⟩
 ·split
  ·exact hl
  ·rfl
 ·rw [tagL_num]
  by_cases hx : x = e
  ·rw [if_pos hx]
   by_cases hp : 0 < u.getD a 0
   ·rw [if_pos ⟨hx, ha, hp⟩]; omega
   ·rw [if_neg (fun k => hp k.2.2)]
    have := h0 a ha
    omega
  ·rw [if_neg hx, if_neg (fun k => hx k.1), zrD]; rfl
theorem Wi.rw2' {d u : List Int} (h : Wi d u) (c : Cn u) : Rw 2 d := ⟨h.1, fun i hi => (h.2.2 i hi).1, fun i hi => by
 have h1 := (h.2.2 i hi).2
 have h2 := (c.2 i).2
 have h3 : (2 : Int) ^ (8 * 2) = 65536 := by decide
 omega⟩
theorem Fw.short {ts : List Tg} (h : ts.length ≤ 12) : Fw ts := fun a _ => Nat.le_trans (List.length_filter_le _ _) h
theorem dRead3 {w : World} {sl : Sl} {bs : List Nat} (h : Gv w sl bs) (hcp : sl.n ≤ sl.c) (hl : bs.length ≤ 64) : Calls Tryz.prog 46 #[.int .i64 3, .slice sl.p sl.n sl.c] w fun x w' => RdP w 3 bs x w' := by
 have HCp := hid hcp
 have HN := hid (rnew_ok w 3 (by omega) (by omega))
 have HG := hid h
 have Hl := hid hl
 obtain ⟨N, HNN⟩ : ∃ N, Hid (N = bs.length) := ⟨_, hid rfl⟩
 have hsn : sl.n = N := by rw [HNN.out]; exact h.len.symm
 have hn64 : ¬ ((N : Nat) : Int) > 64 := by rw [HNN.out]; omega
 have HU : Hid (U8 bs) := hid h.u8
 have Hsn := hid hsn
 rw [hsn]
 clear h hl hsn hcp
 go_enter Tryz.func46, Tryz.ntmps46
 go_upto_region 6 with (
  go_at_call 19
  refine HN.out.mono ?_
  rintro _ w1 ⟨V, rfl, hV, dV, aV⟩
  have HA1 := hid aV
  have HV := hid hV
  have HD0 := hid (dk0' dV)
  clear aV dV hV)
 obtain ⟨R, HR⟩ : ∃ R, Hid (R = w1.heap.size) := ⟨_, hid rfl⟩
 obtain ⟨w2, Hw2⟩ : ∃ W, Hid (W = w1.alloc (.cells #[.slice sl.p N sl.c, .int .i64 0, .bool false] 134)) := ⟨_, hid rfl⟩
 have HR2 : Hid (Dr w w2 R sl bs 0 false) := hid (by rw [Hw2.out, HR.out, ← Hsn.out]; exact Dr.new' HG.out Hl.out HA1.out)
 have HA2 : Hid (Apart [] w w2) := hid HR2.out.ap
 have HD2 : Hid (Dk w2 V (rv0 3) ⟨none, 0, 0⟩) := hid (HD0.out.kept0 (by rw [Hw2.out]; exact (Apart.refl [] w1).alloc _))
 have HVR : Hid (V < R) := hid (by rw [HR.out]; exact lt_of_heap HD0.out.dv.blk)
 go_upto_region 7 with (refine wpL_val rfl (.agg #[.slice sl.p N sl.c, .int .i64 0, .bool false]) (ex_build134 _ rfl rfl) ?_)
 rw [← HR.out, ← Hw2.out]
 clear Hw2 HN HD0 HA1
 have HC := hid (dnumber_ok HR2.out (k := 1) (by omega))
 obtain ⟨x0, Hx0⟩ : ∃ x, Hid (x = dnum bs 0 1) := ⟨_, hid rfl⟩
 rw [← Hx0.out] at HC
 by_cases hx : x0 = 3
 case neg =>
  have hxi : ((x0 : Int) != 3) = true := by simp only [bne_iff_ne, ne_eq]; omega
  have Hno : Hid (rdOk 3 bs = false) := hid (rdOk_no (by omega) (by omega) (by rw [← Hx0.out]; exact hx))
  go_wp2_with (
   go_at_call 62
   refine HC.out.mono ?_
   rintro _ w3 ⟨rfl, d3, a3⟩
   have HA3 : Hid (Apart [] w w3) := hid d3.ap
   clear d3 a3)
  go_ret2
  exact .inr ⟨Hno.out, rfl, HA3.out⟩
 case pos =>
 have hxi : ((x0 : Int) != 3) = false := by rw [hx]; rfl
 have Hhd := hid (dnum_head (k := 3) (by omega) (by rw [← Hx0.out]; exact hx))
 clear hx
 go_upto_region 9 with (
  go_at_call 62
  refine HC.out.mono ?_
  rintro _ w3 ⟨rfl, d3, a3⟩
  rw [Hhd.out.1, Hhd.out.2.1] at d3
  have HR3 : Hid (Dr w w3 R sl bs 1 false) := hid d3
  have HD3 := hid (HD2.out.kr HR2.out a3 (by have := HVR.out; omega))
  clear d3 a3)
 obtain ⟨l, hbs⟩ := Hhd.out.2.2
 have Hbs := hid hbs
 clear hbs
 have Hb1 : Hid (bs.drop 1 = l) := hid (by rw [Hbs.out]; rfl)
 clear hxi HC Hx0 Hhd HR2 HD2 HA2
 have HC := hid (drd_row1 HR3.out (size := 2) (by omega))
 obtain ⟨g, Hg⟩ : ∃ g, Hid (g = rowDD bs 1 false 2 false) := ⟨_, hid rfl⟩
 rw [← Hg.out] at HC
 have Hgl : Hid (g.u.length = 8 ∧ g.d.length = 8) := hid (by rw [Hg.out]; exact rwD_len _ _ _ _ _ _ 8)
 have Hgc : Hid (Cn g.u) := hid (by rw [Hg.out]; exact rowDD_cn HU.out _ _)
 go_upto_region 25 with (first
  | (go_at_call 63
     refine HC.out.mono ?_
     rintro _ w4 ⟨rfl, d4, a4⟩
     have HR4 := hid d4
     have HD4 := hid (HD3.out.kr HR3.out a4 (by have := HVR.out; omega))
     clear d4 a4)
  | (refine wpList_store_mid rfl 60 _ _ rfl V 17 (rv g.u).toArray rfl rfl (dk_there HD4.out 17 _ (by simp [rv_len, Hgl.out.1])) (by rw [size60]; simp [rv_len, Hgl.out.1]) (all_oneCell_toArray (rv_one _)) ?_
     simp only [List.toList_toArray]
     have HD5 := hid (HD4.out.rowC Hgl.out.1)
     have HR5 := hid (HR4.out.kv HD4.out (apart_setCells w4 V (rv g.u) 17) HV.out)
     generalize w4.setCells V 17 (rv g.u) = w5 at *))
 have HT := hid (drd_tags HR5.out HD5.out (Nw.none96 w w5 HR5.out.ap) HV.out (by show ([] : List Tg).length ≤ 9000; simp) ⟨#[]⟩)
 obtain ⟨g2, Hg2⟩ : ∃ g2, Hid (g2 = rowDD bs g.at_ g.bad 2 false) := ⟨_, hid rfl⟩
 obtain ⟨bf, Hbf⟩ : ∃ b, Hid (b = (g2.bad || overB g.u g2.u 8)) := ⟨_, hid rfl⟩
 obtain ⟨ts, Hts⟩ : ∃ b, Hid (b = tagL ⟨#[]⟩ g2.u 8) := ⟨_, hid rfl⟩
 obtain ⟨rf, Hrf⟩ : ∃ x : Rv, Hid (x = ⟨3, zr, zr, g.u, ts, 0, 0, ⟨#[]⟩⟩) := ⟨_, hid rfl⟩
 have HT2 : Hid (Calls Tryz.prog 64 #[.pointer (some ⟨R, 0, none⟩), .pointer (some ⟨V, 0, none⟩), .string ⟨#[]⟩] w5 fun x w' => x = .returned (.tuple #[]) ∧ Dr w w' R sl bs g2.at_ bf ∧ ∃ s', Dk w' V rf s') := hid (HT.out.mono (by
  rintro x w' ⟨h1, h2, s', h3, -⟩
  rw [← Hg2.out] at h2 h3
  refine ⟨h1, ?_, s', ?_⟩
  ·rw [Hbf.out]; exact h2
  ·rw [Hrf.out, Hts.out]; exact h3))
 clear HT HC HR3 HD3 HR4 HD4
 go_upto_region 32 with (
  go_at_call 64
  refine HT2.out.mono ?_
  rintro _ wf ⟨rfl, d6, s6, k6⟩
  have HRf := hid d6
  have HDf0 := hid k6
  clear d6 k6)
 obtain ⟨sf, Hsf⟩ : ∃ s : Sl, Hid (s = s6) := ⟨_, hid rfl⟩
 have HDf : Hid (Dk wf V rf sf) := hid (by rw [Hsf.out]; exact HDf0.out)
 clear HT2 HDf0 HR5 HD5
 have HRl := hid (lt_of_heap HRf.out.blk)
 have Hc2 := hid HRf.out.c2
 have HCv : Hid (∀ W, Apart [] w W → Sem.run Tryz.prog (convert 29 9 (.slice sl.p N sl.c)) W = .ok (.string (strB bs)) W) := hid (fun W a => by
  have := conv_bytes (HG.out.rd.kept0 a) HG.out.len HG.out.ok
  rw [Hsn.out] at this
  exact this)
 go_upto_region 32 with fail
 cases hbf : bf
 case true =>
  rw [hbf] at Hc2
  have Hno : Hid (rdOk 3 bs = false) := hid (by
   cases c : rdOk 3 bs
   ·rfl
   ·exfalso
    obtain ⟨c1, c2⟩ := rdOk_form c
    have gd := (readV_gd (k := 3) (by omega) (by omega) HU.out Hl.out c).1
    obtain ⟨u, d, e⟩ : ∃ u d, readV 3 bs = .flg u d := ⟨_, _, rfl⟩
    rw [e] at c1 c2 gd
    obtain ⟨ou, ow⟩ : Cn u ∧ Wi d u := gd
    have h3 : bs.drop 1 = rowB u 2 ++ rowB d 2 := by rw [← c2]; rfl
    obtain ⟨h4, h5, h6⟩ := rowDD_good1 ou.rw2 h3
    rw [← Hg.out] at h4 h5 h6
    rw [← List.append_nil (rowB d 2)] at h6
    obtain ⟨h7, h8, -⟩ := rowDD_good1 (ow.rw2' ou) h6
    rw [h4] at Hg2
    rw [← Hg2.out] at h7 h8
    have h10 := overB_false (n := 8) (fun i hi => (ow.2.2 i hi).2)
    have h11 := Hbf.out
    rw [hbf, h7, h5, h8, h10] at h11
    cases h11)
  refine wp_region_held_drew (S := fun W => Apart [] wf W) (by kernel_rfl) (Apart.refl [] wf).drew fun hHeld => ?_
  generalize wf.drew = wd at *
  refine zt 0 191 ?_
  refine zt 1 192 ?_
  refine zt 2 193 ?_
  refine zu 3 194 rfl (fun W hSW => by have z : W.cell? ⟨R, 2, none⟩ = some (.bool true) := (hSW.cell HRl.out (by simp)).trans Hc2.out; go_simp <;> rfl) ?_
  refine zt 4 195 ?_
  simp only [zA,zB,zC,zD,zF]
  refine tu 5 196 rfl ?_
  simp only [zA,zB,zC,zD,zF]
  refine tu 8 199 rfl ?_
  simp only [zA,zB,zC,zD,zF]
  refine tu 9 200 rfl ?_
  simp only [zA,zB,zC,zD,zF]
  refine wpAnyH_pass 6 (o := ⟨some 197, _, _, _, _, _⟩) (by kernel_rfl) rfl (by kernel_rfl) (by assumption) ?_
  simp only [zA,zB,zC,zD,zF]
  refine tu 7 198 rfl ?_
  simp only [zA,zB,zC,zD,zF]
  refine tu 10 201 rfl ?_
  refine zt 11 202 ?_
  simp only [zA,zB,zC,zD,zF]
  refine wpAnyH_done (by kernel_rfl) ?_ _
  have HAn := hid hHeld
  clear hHeld
  go_wp2_with fail
  go_ret2
  exact .inr ⟨Hno.out, rfl, HRf.out.ap.trans HAn.out⟩
 case false =>
  rw [hbf] at Hc2
  have Hb2 : Hid (g2.bad = false ∧ overB g.u g2.u 8 = false) := hid (or_false (by rw [← Hbf.out]; exact hbf))
  have Hr2 : Hid (g.bad = false ∧ rowR (bs.drop g.at_) 2 = (g2.u, bs.drop g2.at_)) := hid (by
   have := rowDD_one (bs := bs) (a := g.at_) (b := g.bad) (size := 2) (by rw [← Hg2.out]; exact Hb2.out.1)
   rw [← Hg2.out] at this
   exact this)
  have Hr1 : Hid (rowR (bs.drop 1) 2 = (g.u, bs.drop g.at_)) := hid (by
   have := rowDD_one (bs := bs) (a := 1) (b := false) (size := 2) (by rw [← Hg.out]; exact Hr2.out.1)
   rw [← Hg.out] at this
   exact this.2)
  have Hv1 : Hid (readV 3 bs = .flg g.u g2.u) := hid (by
   show Vl.flg (rowR (bs.drop 1) 2).1 (rowR (rowR (bs.drop 1) 2).2 2).1 = _
   rw [Hr1.out, Hr2.out.2])
  have Hcn2 : Hid (Cn g2.u) := hid (by rw [Hg2.out]; exact rowDD_cn HU.out _ _)
  have Hwi : Hid (Wi g2.u g.u) := hid ⟨Hcn2.out.1, Hgc.out.1, fun i hi => ⟨(Hcn2.out.2 i).1, overB_le Hb2.out.2 i hi⟩⟩
  obtain ⟨v, Hv⟩ : ∃ v : Vl, Hid (v = .flg g.u g2.u) := ⟨_, hid rfl⟩
  have Hrv : Hid (readV 3 bs = v) := hid (by rw [Hv.out]; exact Hv1.out)
  have Hvr : Hid (rvO v ts = rf) := hid (by rw [Hv.out, Hrf.out]; rfl)
  have HRl2 : Hid (Rl v ts) := hid (by
   rw [Hv.out, Hts.out]
   exact ⟨tagL_ts Hcn2.out.1 (fun i hi => (Hcn2.out.2 i).1) ⟨#[]⟩, Fw.short (by have := tagL_len ⟨#[]⟩ g2.u 8; omega)⟩)
  have Hrt : Hid (rightV v = true) := hid (by rw [Hv.out]; show (gr g2.u g.u == g.u) = true; rw [gr_within Hwi.out]; simp)
  have HIv : Hid (Iv v) := hid (by rw [Hv.out]; exact ⟨⟨⟨Hgc.out, Hwi.out⟩, fun s a t e => by cases e⟩, fun x hx => by simp [elsR] at hx⟩)
  have HFo : Hid (∀ W, Apart [] wf W → Calls Tryz.prog 44 #[.pointer (some ⟨V, 0, none⟩)] W fun x w' => ∃ s', x = .returned (.slice s'.p s'.n s'.c) ∧ Bf W w' s' (formV v)) := hid (fun W aW => dform_any (by rw [Hvr.out]; exact HDf.out.kept0 aW) HRl2.out HIv.out)
  have HU2 : Hid (U8 (formV v)) := hid (formV_u8 v)
  by_cases he : formV v = bs
  ·have Hne : Hid (((strB (formV v)).toList != (strB bs).toList) = false) := hid (by rw [he]; simp)
   have Hyes : Hid (rdOk 3 bs = true) := hid (by
    unfold rdOk
    rw [Hrv.out, Hrt.out, he]
    simp)
   refine wp_region_held_drew (S := fun W => Apart [] wf W) (by kernel_rfl) (Apart.refl [] wf).drew fun hHeld => ?_
   generalize wf.drew = wd at *
   refine zt 0 191 ?_
   refine zt 1 192 ?_
   refine zt 2 193 ?_
   refine zu 3 194 rfl (fun W hSW => by have z : W.cell? ⟨R, 2, none⟩ = some (.bool false) := (hSW.cell HRl.out (by simp)).trans Hc2.out; go_simp <;> rfl) ?_
   refine zt 4 195 ?_
   refine zt 5 196 ?_
   refine zt 8 199 ?_
   simp only [zA,zB,zC,zD,zF]
   refine tk 9 200 (.string (strB bs)) rfl ?_ ?_
   ·intro W hSW; have hcv := HCv.out W (HRf.out.ap.trans hSW); go_simp
   simp only [zA,zB,zC,zD,zF]
   refine zQ 6 fun KK hKK => ?_
   go_simp
   refine (HFo.out wd hHeld).mono ?_
   rintro _ wa ⟨sf2, rfl, bff⟩
   have hHx := hHeld.trans bff.nw.ap
   try dsimp only
   refine hKK.out _ _ hHx (fun hHeld => ?_)
   clear hKK KK
   try simp only [zA,zB,zC,zD,zF]
   refine zQ 7 fun KK hKK => ?_
   have hcv := conv_bytes (w := wa) (Rd.own bff.nw.own) bff.len.symm bff.nw.ok
   go_simp
   refine hKK.out _ _ hHeld (fun hHeld => ?_)
   clear hKK KK
   try simp only [zA,zB,zC,zD,zF]
   refine tk 10 201 (.bool false) rfl ?_ ?_
   ·intro W hSW; have hne := Hne.out; go_simp
   refine zt 11 202 ?_
   simp only [zA,zB,zC,zD,zF]
   refine wpAnyH_done (by kernel_rfl) ?_ _
   have HAn := hid hHeld
   clear hHeld bff
   have HDz := hid (HDf.out.kept0 HAn.out)
   go_wp2_with fail
   go_ret2
   exact .inl ⟨Hyes.out, ⟨V, sf, ts, rfl, HV.out, by rw [Hrv.out, Hvr.out]; exact HDz.out, by rw [Hrv.out]; exact HRl2.out⟩, HRf.out.ap.trans HAn.out⟩
  ·have Hne : Hid (((strB (formV v)).toList != (strB bs).toList) = true) := hid (by
    have := strB_eq HU2.out HU.out
    rw [decide_eq_false he] at this
    rw [bne, this]; rfl)
   have Hno : Hid (rdOk 3 bs = false) := hid (by
    unfold rdOk
    rw [Hrv.out, decide_eq_false he]
    simp)
   refine wp_region_held_drew (S := fun W => Apart [] wf W) (by kernel_rfl) (Apart.refl [] wf).drew fun hHeld => ?_
   generalize wf.drew = wd at *
   refine zt 0 191 ?_
   refine zt 1 192 ?_
   refine zt 2 193 ?_
   refine zu 3 194 rfl (fun W hSW => by have z : W.cell? ⟨R, 2, none⟩ = some (.bool false) := (hSW.cell HRl.out (by simp)).trans Hc2.out; go_simp <;> rfl) ?_
   refine zt 4 195 ?_
   refine zt 5 196 ?_
   refine zt 8 199 ?_
   simp only [zA,zB,zC,zD,zF]
   refine tk 9 200 (.string (strB bs)) rfl ?_ ?_
   ·intro W hSW; have hcv := HCv.out W (HRf.out.ap.trans hSW); go_simp
   simp only [zA,zB,zC,zD,zF]
   refine zQ 6 fun KK hKK => ?_
   go_simp
   refine (HFo.out wd hHeld).mono ?_
   rintro _ wa ⟨sf2, rfl, bff⟩
   have hHx := hHeld.trans bff.nw.ap
   try dsimp only
   refine hKK.out _ _ hHx (fun hHeld => ?_)
   clear hKK KK
   try simp only [zA,zB,zC,zD,zF]
   refine zQ 7 fun KK hKK => ?_
   have hcv := conv_bytes (w := wa) (Rd.own bff.nw.own) bff.len.symm bff.nw.ok
   go_simp
   refine hKK.out _ _ hHeld (fun hHeld => ?_)
   clear hKK KK
   try simp only [zA,zB,zC,zD,zF]
   refine tk 10 201 (.bool true) rfl ?_ ?_
   ·intro W hSW; have hne := Hne.out; have hnp := bne_iff_ne.1 hne; go_simp
   refine zt 11 202 ?_
   simp only [zA,zB,zC,zD,zF]
   refine wpAnyH_done (by kernel_rfl) ?_ _
   have HAn := hid hHeld
   clear hHeld bff
   go_wp2_with fail
   go_ret2
   exact .inr ⟨Hno.out, rfl, HRf.out.ap.trans HAn.out⟩
/-! ### the entries that are read, as tags -/
def flatT : List En → List Tg
 | [] => []
 | x :: r => tagL x.e x.t 8 ++ flatT r
theorem flatT_app (a b : List En) : flatT (a ++ b) = flatT a ++ flatT b := by
 induction a with
 | nil => rfl
 | cons x r ih => simp [flatT, ih, List.append_assoc]
theorem flatT_mem : ∀ {es : List En} {t : Tg}, t ∈ flatT es → ∃ x ∈ es, t ∈ tagL x.e x.t 8
 | [], t, h => by simp [flatT] at h
 | x :: r, t, h => by
  rcases List.mem_append.1 h with h | h
  ·exact ⟨x, by simp, h⟩
  ·obtain ⟨y, hy, h2⟩ := flatT_mem h
   exact ⟨y, List.mem_cons_of_mem _ hy, h2⟩
theorem flat_ts : ∀ {es : List En}, So es → (∀ x ∈ es, x.t.length = 8) → (∀ x ∈ es, ∀ i, i < 8 → 0 ≤ x.t.getD i 0) → Ts (flatT es) (tg es)
 | [], _, _, _ => Ts.nil
 | x :: r, hs, hl, h0 => by
  obtain ⟨s1, s2⟩ := List.pairwise_cons.1 hs
  have ih := flat_ts s2 (fun y hy => hl y (List.mem_cons_of_mem _ hy)) (fun y hy => h0 y (List.mem_cons_of_mem _ hy))
  have hx := tagL_ts (hl x (by simp)) (h0 x (by simp)) x.e
  have hne : ∀ t ∈ flatT r, t.e ≠ x.e := fun t ht e => by
   obtain ⟨y, hy, h2⟩ := flatT_mem ht
   have := s1 y hy
   rw [← (tagL_mem h2).1, e, bl_irrefl] at this
   cases this
  refine ⟨⟨fun t ht => ?_, List.pairwise_append.2 ⟨hx.og.one, ih.og.one, fun s hs t ht => ?_⟩⟩, fun e => ?_, fun e a ha => ?_⟩
  ·rcases List.mem_append.1 ht with ht | ht
   ·exact hx.og.ok t ht
   ·exact ih.og.ok t ht
  ·rintro ⟨k, -⟩
   exact hne t ht (k.symm.trans (tagL_mem hs).1)
  ·unfold tg
   split
   ·exact hl x (by simp)
   ·exact ih.len e
  ·show (tg (x :: r) e).getD a 0 = (numT (tagL x.e x.t 8 ++ flatT r) e a : Int)
   rw [numT_app]
   unfold tg
   by_cases he : x.e = e
   ·rw [if_pos he]
    have h1 := hx.eq e a ha
    rw [if_pos he.symm] at h1
    rw [h1]
    by_cases c : ∃ t ∈ tagL x.e x.t 8, t.e = e ∧ t.a = a
    ·rw [if_pos c]
    ·rw [if_neg c]
     have z1 : numT (tagL x.e x.t 8) e a = 0 := by
      rcases numT_or (tagL x.e x.t 8) e a with ⟨z, -⟩ | ⟨t, ht, z1, z2, -⟩
      ·exact z
      ·exact absurd ⟨t, ht, z1, z2⟩ c
     have z2 : numT (flatT r) e a = 0 := by
      rcases numT_or (flatT r) e a with ⟨z, -⟩ | ⟨t, ht, z1, z2, -⟩
      ·exact z
      ·exact absurd (z1.trans he.symm) (hne t ht)
     rw [z1, z2]
   ·rw [if_neg he, if_neg, ih.eq e a ha]
    rintro ⟨t, ht, k, -⟩
    exact he ((tagL_mem ht).1.symm.trans k)
def rowT (ts : List Tg) (e : ByteArray) : List Int := (List.range 8).map fun a => (numT ts e a : Int)
theorem rowT_len (ts : List Tg) (e : ByteArray) : (rowT ts e).length = 8 := by simp [rowT]
theorem rowT_at (ts : List Tg) (e : ByteArray) {a : Nat} (ha : a < 8) : (rowT ts e).getD a 0 = (numT ts e a : Int) := by
 rw [List.getD_eq_getElem?_getD, rowT, List.getElem?_map, List.getElem?_range ha]; rfl
def canE (ts : List Tg) : List En := (elsT ts []).map fun e => ⟨e, rowT ts e⟩
theorem canE_els (ts : List Tg) : elsT ts [] = (canE ts).map fun x => x.e := by
 unfold canE
 rw [List.map_map]
 simp [Function.comp_def]
theorem canE_mem {ts : List Tg} {x : En} (h : x ∈ canE ts) : x.t = rowT ts x.e ∧ ∃ t ∈ ts, t.e = x.e := by
 unfold canE at h
 obtain ⟨e, he, rfl⟩ := List.mem_map.1 h
 refine ⟨rfl, ?_⟩
 rcases (elsT_mem ts [] e).1 he with h1 | h1
 ·simp at h1
 ·exact h1
theorem canE_len (ts : List Tg) : (canE ts).length ≤ ts.length := by
 unfold canE
 rw [List.length_map]
 have := elsT_len ts []
 simpa using this
structure Eg (c : List Int) (es : List En) : Prop where
 sz : ∀ x ∈ es, 1 ≤ x.e.size ∧ x.e.size ≤ 8
 cn : ∀ x ∈ es, Cn x.t
 ov : ∀ x ∈ es, overB c x.t 8 = false
theorem Eg.tag {c : List Int} {es : List En} (h : Eg c es) {t : Tg} (ht : t ∈ flatT es) : 1 ≤ t.e.size ∧ t.e.size ≤ 8 ∧ t.a < 8 ∧ 0 < t.n ∧ (t.n : Int) ≤ c.getD t.a 0 ∧ t.n ≤ 65535 := by
 obtain ⟨x, hx, h2⟩ := flatT_mem ht
 obtain ⟨e1, e2, e3, e4⟩ := tagL_mem h2
 have s := h.sz x hx
 have o := overB_le (h.ov x hx) t.a e2
 have n := (h.cn x hx).2 t.a
 rw [e1]
 exact ⟨s.1, s.2, e2, by omega, by omega, by omega⟩
theorem Eg.tr {c : List Int} {es : List En} (h : Eg c es) (e : ByteArray) : Tr (flatT es) e (rowT (flatT es) e) := ⟨rowT_len _ _, fun a ha => rowT_at _ _ ha, fun a ha => by
 rcases numT_or (flatT es) e a with ⟨z, -⟩ | ⟨t, ht, z1, z2, z3⟩
 ·rw [z]; omega
 ·rw [z3]; exact (h.tag ht).2.2.2.2.2⟩
theorem Eg.gs {c : List Int} {es : List En} (h : Eg c es) (hc : Cn c) : Gs c (canE (flatT es)) ∧ ∀ x ∈ canE (flatT es), 1 ≤ x.e.size ∧ x.e.size ≤ 8 := by
 refine ⟨⟨?_, fun x hx => ?_, fun x hx => ?_, hc.1, fun i hi => (hc.2 i).1⟩, fun x hx => ?_⟩
 ·have := elsT_so (flatT es) (l := []) List.Pairwise.nil
  unfold So canE
  rw [List.pairwise_map]
  exact this
 ·obtain ⟨e1, t, ht, e2⟩ := canE_mem hx
  intro hz
  have h1 := rowT_at (flatT es) x.e (h.tag ht).2.2.1
  rw [← e1, hz, zrD] at h1
  rcases numT_or (flatT es) x.e t.a with ⟨-, z⟩ | ⟨s, hs, s1, s2, s3⟩
  ·exact z t ht ⟨e2, rfl⟩
  ·have := (h.tag hs).2.2.2.1
   omega
 ·obtain ⟨e1, -⟩ := canE_mem hx
  rw [e1]
  refine ⟨rowT_len _ _, hc.1, fun i hi => ?_⟩
  rw [rowT_at _ _ hi]
  rcases numT_or (flatT es) x.e i with ⟨z, -⟩ | ⟨s, hs, s1, s2, s3⟩
  ·rw [z]; have := (hc.2 i).1; omega
  ·rw [s3, ← s2]; have := (h.tag hs).2.2.2.2.1; omega
 ·obtain ⟨-, t, ht, e2⟩ := canE_mem hx
  rw [← e2]
  have := h.tag ht
  exact ⟨this.1, this.2.1⟩
theorem sr_size {c : List Int} {es : List En} (h : srR c es = true) : ∀ x ∈ es, 1 ≤ x.e.size := by
 intro x hx
 obtain ⟨i, hi, rfl⟩ := List.getElem_of_mem hx
 unfold srR at h
 have h1 := List.all_eq_true.1 h i (List.mem_range.2 hi)
 unfold okE at h1
 rw [List.getElem?_eq_getElem hi] at h1
 simp only [Bool.and_eq_true] at h1
 have h2 := h1.1
 unfold okX at h2
 simp only [Bool.and_eq_true] at h2
 exact ((isE_iff _).1 h2.1).1
theorem rdOk_set {bs : List Nat} (h8 : U8 bs) (hl : bs.length ≤ 64) (c : rdOk 2 bs = true) {cc : List Int} {es : List En} (e : readV 2 bs = .set cc es) : Gs cc es ∧ Cn cc ∧ (∀ x ∈ es, 1 ≤ x.e.size ∧ x.e.size ≤ 8) ∧ bs = setB cc es ∧ es.length ≤ 12 := by
 obtain ⟨c1, c2⟩ := rdOk_form c
 have gd := (readV_gd (k := 2) (by omega) (by omega) h8 hl c).1
 rw [e] at c1 c2 gd
 obtain ⟨g1, g2, g3⟩ : Gs cc es ∧ Cn cc ∧ ∀ x ∈ es, x.e.size ≤ 8 := gd
 have s1 := sr_size (show srR cc es = true from c1)
 refine ⟨g1, g2, fun x hx => ⟨s1 x hx, g3 x hx⟩, c2.symm, few_of g1 g2 s1 ?_⟩
 have : setB cc es = bs := c2
 rw [this]; exact hl
theorem Gs.row0 {c : List Int} {es : List En} (h : Gs c es) {x : En} (hx : x ∈ es) : ∀ i, i < 8 → 0 ≤ x.t.getD i 0 := fun i hi => ((h.wi x hx).2.2 i hi).1
theorem Gs.flat {c : List Int} {es : List En} (h : Gs c es) : Ts (flatT es) (ty.tg es) := flat_ts h.so (fun x hx => (h.wi x hx).1) (fun x hx => h.row0 hx)
theorem Gs.can {c : List Int} {es : List En} (h : Gs c es) : canE (flatT es) = es := by
 have h1 := h.flat
 have h2 := els_eq h1 h.so h.nz (fun x hx => (h.wi x hx).1)
 unfold canE
 rw [h2, List.map_map]
 conv => rhs; rw [← List.map_id es]
 refine List.map_congr_left fun x hx => ?_
 have h3 : rowT (flatT es) x.e = x.t := by
  refine row_ext (rowT_len _ _) (h.wi x hx).1 fun i hi => ?_
  rw [rowT_at _ _ hi, ← h1.eq x.e i hi, tg_mem h.so hx]
 show (⟨x.e, rowT (flatT es) x.e⟩ : En) = x
 rw [h3]
theorem set_yes {bs : List Nat} (h8 : U8 bs) (hl : bs.length ≤ 64) {c : List Int} {es : List En} (e : readV 2 bs = .set c es) (hg : Eg c es) (hc : Cn c) (hf : setB c (canE (flatT es)) = bs) : rdOk 2 bs = true ∧ readV 2 bs = .set c (canE (flatT es)) ∧ Rl (.set c (canE (flatT es))) (flatT es) := by
 obtain ⟨g, hs⟩ := hg.gs hc
 have few := few_of g hc (fun x hx => (hs x hx).1) (by rw [hf]; exact hl)
 have gt : Gt (.set c (canE (flatT es))) := ⟨⟨g, hc, fun x hx => (hs x hx).2⟩, fun s a t q => by cases q⟩
 have hb : readV 2 bs = .set c (canE (flatT es)) := by
  have h1 := readV_back gt (show (canE (flatT es)).length ≤ 200 by omega)
  have h2 : formV (.set c (canE (flatT es))) = bs := hf
  rw [h2] at h1
  exact h1
 have hr := rightV_gd gt (fun x hx => (hs x hx).1)
 have he : canE (flatT es) = es := by
  have h1 := hb.symm.trans e
  exact (Prod.mk.inj (Sum.inl.inj (Sum.inr.inj h1))).2
 refine ⟨?_, hb, ?_⟩
 ·unfold rdOk
  rw [hb, hr]
  have h2 : formV (.set c (canE (flatT es))) = bs := hf
  rw [h2]
  simp
 ·rw [he] at g few ⊢
  exact ⟨g.flat, Fw.of g.flat few⟩
theorem set_no {bs : List Nat} (h8 : U8 bs) (hl : bs.length ≤ 64) {c : List Int} {es : List En} (e : readV 2 bs = .set c es) (hf : setB c (canE (flatT es)) ≠ bs) : rdOk 2 bs = false := by
 cases q : rdOk 2 bs
 ·rfl
 ·obtain ⟨g1, -, -, g4, -⟩ := rdOk_set h8 hl q e
  rw [g1.can] at hf
  exact absurd g4.symm hf
theorem readV_two {bs : List Nat} {u : List Int} {q : Nat} (h : rowR (bs.drop 1) 2 = (u, bs.drop q)) (hb : dbad bs q 1 = false) : readV 2 bs = .set u (esI (dnum bs q 1) (bs.drop (dat bs q 1))).1 := by
 obtain ⟨f1, f2, f3, f4⟩ := dfit hb
 show Vl.set (rowR (bs.drop 1) 2).1 (esI (leV ((rowR (bs.drop 1) 2).2.take 1)) ((rowR (bs.drop 1) 2).2.drop 1)).1 = _
 rw [h, ← f2, f4, ← f3]
theorem esI_more {bs us : List Nat} {j q k : Nat} {es : List En} {u : List Int} {q2 : Nat} (h : esI j us = (es, bs.drop q)) (hb : dbad bs q 1 = false) (hk : dnum bs q 1 = k) (hr : rowR (bs.drop (dat bs q 1 + k)) 2 = (u, bs.drop q2)) : esI (j + 1) us = (es ++ [⟨strB ((bs.drop (dat bs q 1)).take k), u⟩], bs.drop q2) := by
 obtain ⟨f1, f2, f3, f4⟩ := dfit hb
 rw [esI, h]
 simp only
 rw [← f2, hk, f4, ← f3, List.drop_drop, hr]
theorem rwD_ge (bs : List Nat) (mask size : Nat) (two : Bool) (a : Nat) (b : Bool) (ha : a ≤ bs.length) : ∀ i, a ≤ (rwD bs mask size two a b i).at_
 | 0 => Nat.le_refl _
 | i + 1 => by
  have h := rwD_ge bs mask size two a b ha i
  have h2 := rwD_at bs mask size two a b ha i
  have hd : ∀ q, q ≤ bs.length → q ≤ dat bs q size := fun q hq => by unfold dat; split <;> omega
  unfold rwD rwS
  split
  ·split
   ·exact Nat.le_trans (Nat.le_trans h (hd _ h2)) (hd _ (dat_le _ _ _))
   ·exact Nat.le_trans h (hd _ h2)
  ·exact h
theorem rowDD_ge (bs : List Nat) (a : Nat) (b : Bool) (size : Nat) (two : Bool) (ha : a ≤ bs.length) : a ≤ (rowDD bs a b size two).at_ := by
 refine Nat.le_trans ?_ (rwD_ge bs _ size two _ _ (dat_le _ _ _) 8)
 unfold dat; split <;> omega
end Go.Proofs.YtdbeeikjngnnnaaGreat.ty
