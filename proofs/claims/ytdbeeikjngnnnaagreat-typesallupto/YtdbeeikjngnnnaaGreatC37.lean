import Derived.Test.YtdbeeikjngnnnaaGreatC36
namespace Go.Proofs.YtdbeeikjngnnnaaGreat.ty
open Go.ChangeShapes Go.WideShapes Go.ChangeAt Go.RowKit
set_option linter.unusedVariables false
set_option linter.unusedSimpArgs false
set_option maxRecDepth 100000
set_option maxHeartbeats 8000000
def Sl.midB (s : Sl) (l h : Nat) : Sl := ⟨if s.c = l then s.p else s.p.map (·.add (l * 1)), h - l, s.c - l⟩
theorem ex_midB {W : World} {eval : Operand → Value} {op : Oper} (s : Sl) (l h : Nat) (x y z : Operand) (ho : op.op = .slice 29 x (some y) (some z) none) (hx : eval x = .slice s.p s.n s.c) (hy : eval y = .int .i64 (l : Int)) (hz : eval z = .int .i64 (h : Int)) (hlh : l ≤ h) (hk : h ≤ s.c) : (execOp eval op).run Tryz.prog W = .ok (.value (.slice (s.midB l h).p (s.midB l h).n (s.midB l h).c)) W := by
 unfold execOp
 simp only [ho, hx, Option.map_some, Option.map_none, hy, hz, Sem.run_bind, run_sliceAt_slice W 29 _ _ _ _ ul22, run_slice_lh W 29 s.p s.n s.c ul22 .i64 .i64 (l : Int) (h : Int) (by omega) (by omega) (by omega), el22, sz5, Result.andThen_ok, Sem.run_pure]
 simp [sliced, Sl.midB]
theorem Rd.midB {w : World} {s : Sl} {us : List Nat} (h : Rd w s.p (byts us)) (hl : us.length = s.n) (hc : s.n ≤ s.c) {l k : Nat} (hk : l + k ≤ us.length) : Rd w (s.midB l (l + k)).p (byts ((us.drop l).take k)) ∧ ((us.drop l).take k).length = (s.midB l (l + k)).n := by
 refine ⟨fun h0 => ?_, ?_⟩
 ·rw [byts_len, List.length_take, List.length_drop] at h0
  obtain ⟨P, o, e1, hb, hcell⟩ := h (by rw [byts_len]; omega)
  refine ⟨P, o + l, ?_, hb, fun j u hj => ?_⟩
  ·simp only [Sl.midB, e1, Option.map_some, Addr.add_lit, Nat.mul_one]
   rw [if_neg (by omega)]
  ·rw [Nat.add_assoc]
   refine hcell _ _ ?_
   simp only [byts, List.getElem?_map, Option.map_eq_some_iff] at hj ⊢
   obtain ⟨b, hb1, hb2⟩ := hj
   refine ⟨b, ?_, hb2⟩
   rw [List.getElem?_take] at hb1
   split at hb1
   ·rw [List.getElem?_drop] at hb1; exact hb1
   ·cases hb1
 ·rw [List.length_take, List.length_drop]
  show _ = l + k - l
  omega
theorem Sl.midB_ok {s : Sl} (h : s.ok) (hc : s.n ≤ s.c) {l k : Nat} (hk : l + k ≤ s.n) : (s.midB l (l + k)).ok := by
 intro hp
 have hn : s.p = none := by
  simp only [Sl.midB] at hp
  split at hp
  ·exact hp
  ·simpa using hp
 have h1 := h hn
 exact ⟨by show l + k - l = 0; omega, by show s.c - l = 0; omega⟩
theorem enB_drop {bs : List Nat} {q : Nat} {y : En} {r : List En} (e : bs.drop q = esB (y :: r)) (hy : y.e.size ≤ 8) : dbad bs q 1 = false ∧ dnum bs q 1 = y.e.size ∧ dat bs q 1 + y.e.size ≤ bs.length ∧ bs.drop (dat bs q 1 + y.e.size) = rowB y.t 2 ++ esB r ∧ (bs.drop (dat bs q 1)).take y.e.size = bsk y.e := by
 have h : bs.drop q = (y.e.size % 256) :: (bsk y.e ++ (rowB y.t 2 ++ esB r)) := by
  rw [e]
  show enB y ++ esB r = _
  simp [enB, List.append_assoc]
 obtain ⟨d1, d2, d3⟩ := drop_head h
 have hl : (bsk y.e).length = y.e.size := bsk_len _
 have h2 := congrArg List.length d3
 rw [List.length_drop, List.length_append, hl] at h2
 have h3 : (rowB y.t 2 ++ esB r).length ≥ 1 := by simp [rowB]
 refine ⟨d1, by rw [d2, Nat.mod_eq_of_lt (by omega)], by omega, ?_, ?_⟩
 ·rw [← List.drop_drop, d3, List.drop_append_of_le_length (by omega), List.drop_of_length_le (by omega), List.nil_append]
 ·rw [d3, List.take_append_of_le_length (by omega), List.take_of_length_le (by omega)]
theorem dRead2 {w : World} {sl : Sl} {bs : List Nat} (h : Gv w sl bs) (hcp : sl.n ≤ sl.c) (hl : bs.length ≤ 64) : Calls Tryz.prog 46 #[.int .i64 2, .slice sl.p sl.n sl.c] w fun x w' => RdP w 2 bs x w' := by
 have HCp := hid hcp
 have HN := hid (rnew_ok w 2 (by omega) (by omega))
 have HG := hid h
 have Hl := hid hl
 obtain ⟨N, HNN⟩ : ∃ N, Hid (N = bs.length) := ⟨_, hid rfl⟩
 have hsn : sl.n = N := by rw [HNN.out]; exact h.len.symm
 have hn64 : ¬ ((N : Nat) : Int) > 64 := by rw [HNN.out]; omega
 have HU : Hid (U8 bs) := hid h.u8
 have Hsn := hid hsn
 rw [hsn]
 clear h hl hsn hcp
 go_enter Tryz.func46, Tryz.ntmps46
 go_upto_region 6 with (
  go_at_call 19
  refine HN.out.mono ?_
  rintro _ w1 ⟨V, rfl, hV, dV, aV⟩
  have HA1 := hid aV
  have HV := hid hV
  have HD0 := hid (dk0' dV)
  clear aV dV hV)
 obtain ⟨R, HR⟩ : ∃ R, Hid (R = w1.heap.size) := ⟨_, hid rfl⟩
 obtain ⟨w2, Hw2⟩ : ∃ W, Hid (W = w1.alloc (.cells #[.slice sl.p N sl.c, .int .i64 0, .bool false] 134)) := ⟨_, hid rfl⟩
 have HR2 : Hid (Dr w w2 R sl bs 0 false) := hid (by rw [Hw2.out, HR.out, ← Hsn.out]; exact Dr.new' HG.out Hl.out HA1.out)
 have HA2 : Hid (Apart [] w w2) := hid HR2.out.ap
 have HD2 : Hid (Dk w2 V (rv0 2) ⟨none, 0, 0⟩) := hid (HD0.out.kept0 (by rw [Hw2.out]; exact (Apart.refl [] w1).alloc _))
 have HVR : Hid (V < R) := hid (by rw [HR.out]; exact lt_of_heap HD0.out.dv.blk)
 go_upto_region 7 with (refine wpL_val rfl (.agg #[.slice sl.p N sl.c, .int .i64 0, .bool false]) (ex_build134 _ rfl rfl) ?_)
 rw [← HR.out, ← Hw2.out]
 clear Hw2 HN HD0 HA1
 have HC := hid (dnumber_ok HR2.out (k := 1) (by omega))
 obtain ⟨x0, Hx0⟩ : ∃ x, Hid (x = dnum bs 0 1) := ⟨_, hid rfl⟩
 rw [← Hx0.out] at HC
 by_cases hx : x0 = 2
 case neg =>
  have hxi : ((x0 : Int) != 2) = true := by simp only [bne_iff_ne, ne_eq]; omega
  have Hno : Hid (rdOk 2 bs = false) := hid (rdOk_no (by omega) (by omega) (by rw [← Hx0.out]; exact hx))
  go_wp2_with (
   go_at_call 62
   refine HC.out.mono ?_
   rintro _ w3 ⟨rfl, d3, a3⟩
   have HA3 : Hid (Apart [] w w3) := hid d3.ap
   clear d3 a3)
  go_ret2
  exact .inr ⟨Hno.out, rfl, HA3.out⟩
 case pos =>
 have hxi : ((x0 : Int) != 2) = false := by rw [hx]; rfl
 have Hhd := hid (dnum_head (k := 2) (by omega) (by rw [← Hx0.out]; exact hx))
 clear hx
 go_upto_region 9 with (
  go_at_call 62
  refine HC.out.mono ?_
  rintro _ w3 ⟨rfl, d3, a3⟩
  rw [Hhd.out.1, Hhd.out.2.1] at d3
  have HR3 : Hid (Dr w w3 R sl bs 1 false) := hid d3
  have HD3 := hid (HD2.out.kr HR2.out a3 (by have := HVR.out; omega))
  clear d3 a3)
 obtain ⟨l, hbs⟩ := Hhd.out.2.2
 have Hbs := hid hbs
 clear hbs
 have Hb1 : Hid (bs.drop 1 = l) := hid (by rw [Hbs.out]; rfl)
 clear hxi HC Hx0 Hhd HR2 HD2 HA2
 have HC := hid (drd_row1 HR3.out (size := 2) (by omega))
 obtain ⟨g, Hg⟩ : ∃ g, Hid (g = rowDD bs 1 false 2 false) := ⟨_, hid rfl⟩
 rw [← Hg.out] at HC
 have Hgl : Hid (g.u.length = 8 ∧ g.d.length = 8) := hid (by rw [Hg.out]; exact rwD_len _ _ _ _ _ _ 8)
 obtain ⟨c, Hc⟩ : ∃ c, Hid (c = g.u) := ⟨_, hid rfl⟩
 have Hgc : Hid (Cn c) := hid (by rw [Hc.out, Hg.out]; exact rowDD_cn HU.out _ _)
 rw [← Hc.out] at HC
 go_upto_region 14 with (first
  | (go_at_call 63
     refine HC.out.mono ?_
     rintro _ w4 ⟨rfl, d4, a4⟩
     have HR4 := hid d4
     have HD4 := hid (HD3.out.kr HR3.out a4 (by have := HVR.out; omega))
     clear d4 a4)
  | (refine wpList_store_mid rfl 60 _ _ rfl V 17 (rv c).toArray rfl rfl (dk_there HD4.out 17 _ (by simp [rv_len, Hgc.out.1])) (by rw [size60]; simp [rv_len, Hgc.out.1]) (all_oneCell_toArray (rv_one _)) ?_
     simp only [List.toList_toArray]
     have HD5 := hid (HD4.out.rowC Hgc.out.1)
     have HR5 := hid (HR4.out.kv HD4.out (apart_setCells w4 V (rv c) 17) HV.out)
     generalize w4.setCells V 17 (rv c) = w5 at *))
 obtain ⟨x, Hx⟩ : ∃ x, Hid (x = dnum bs g.at_ 1) := ⟨_, hid rfl⟩
 obtain ⟨us, Hus⟩ : ∃ u, Hid (u = bs.drop (dat bs g.at_ 1)) := ⟨_, hid rfl⟩
 have HC2 := hid (dnumber_ok HR5.out (k := 1) (by omega))
 rw [← Hx.out] at HC2
 have Hx256 : Hid (x < 256) := hid (by rw [Hx.out]; exact dnum_lt HU.out _ 1)
 go_upto_region 15 with (
  go_at_call 62
  refine HC2.out.mono ?_
  rintro _ w6 ⟨rfl, d6, a6⟩
  have HR6 := hid d6
  have HD6 := hid (HD5.out.kr HR5.out a6 (by have := HVR.out; omega))
  clear d6 a6)
 have HN6 := hid (Nw.none96 w w6 HR6.out.ap)
 have HI10 : Hid ((g.bad || dbad bs g.at_ 1) = false → g.bad = false ∧ dbad bs g.at_ 1 = false ∧ ∃ es, esI 0 us = (es, bs.drop (dat bs g.at_ 1)) ∧ ([] : List Tg) = flatT es ∧ Eg c es) := hid (fun h => by
  obtain ⟨h1, h2⟩ := or_false h
  exact ⟨h1, h2, [], by rw [Hus.out]; rfl, rfl, ⟨by simp, by simp, by simp⟩⟩)
 have HI20 : Hid (rdOk 2 bs = true → (g.bad || dbad bs g.at_ 1) = false ∧ ∃ es, readV 2 bs = .set c es ∧ es.length = x ∧ Gs c es ∧ (∀ y ∈ es, 1 ≤ y.e.size ∧ y.e.size ≤ 8) ∧ bs.drop (dat bs g.at_ 1) = esB (es.drop 0)) := hid (fun h => by
  obtain ⟨cc, es, e⟩ : ∃ cc es, readV 2 bs = .set cc es := ⟨_, _, rfl⟩
  obtain ⟨g1, g2, g3, g4, g5⟩ := rdOk_set HU.out Hl.out h e
  have h3 : bs.drop 1 = rowB cc 2 ++ ((es.length % 256) :: esB es) := by rw [g4]; rfl
  obtain ⟨h4, h5, h6⟩ := rowDD_good1 g2.rw2 h3
  rw [← Hg.out] at h4 h5 h6
  obtain ⟨d1, d2, d3⟩ := drop_head h6
  rw [← Hc.out] at h5
  rw [← h5] at e g1
  refine ⟨by rw [h4, d1]; rfl, es, e, by rw [Hx.out, d2, Nat.mod_eq_of_lt (by omega)], g1, g3, ?_⟩
  rw [d3]; rfl)
 clear HC HC2 HR3 HD3 HR4 HD4 HR5 HD5
 go_loopw [9] (fun v9 wt => ∃ (j n q : Nat) (m : Int) (b : Bool) (ts : List Tg) (so : Sl), v9 = .int .i64 m ∧ Hid (m = (n : Int) ∧ n ≤ 255) ∧ Hid (n + j = x) ∧ Hid (2 * j ≤ q) ∧ Hid (ts.length ≤ 8 * j) ∧ Hid (Dr w wt R sl bs q b) ∧ Hid (Dk wt V ⟨2, zr, zr, c, ts, 0, 0, ⟨#[]⟩⟩ so) ∧ Hid (Nw w wt 96 3 so (tgL ts)) ∧ Hid (b = false → g.bad = false ∧ dbad bs g.at_ 1 = false ∧ ∃ es, esI j us = (es, bs.drop q) ∧ ts = flatT es ∧ Eg c es) ∧ Hid (rdOk 2 bs = true → b = false ∧ ∃ es, readV 2 bs = .set c es ∧ es.length = x ∧ Gs c es ∧ (∀ y ∈ es, 1 ≤ y.e.size ∧ y.e.size ≤ 8) ∧ bs.drop q = esB (es.drop j))) (fun v9 _ => natV v9)
 case atStart => exact ⟨0, x, _, _, _, [], ⟨none, 0, 0⟩, rfl, hid ⟨rfl, by have := Hx256.out; omega⟩, hid (by omega), hid (by omega), hid (by simp), HR6, HD6, HN6, HI10, HI20⟩
 case round =>
  clear HR6 HD6 HN6 HI10 HI20
  obtain ⟨j, n, q, m, bf, ts, sf, rfl, Hm255, Hnj, Hjq, Htl, HRf, HDf0, HNf, HI1, HI2⟩ := hrel
  generalize wr = wt at *
  have Hj32 : Hid (j ≤ 32) := hid (by have := Hjq.out; have := HRf.out.at_; have := Hl.out; omega)
  have Hn255 : Hid (n ≤ 255) := hid Hm255.out.2
  have Hm : Hid (m = (n : Int)) := hid Hm255.out.1
  obtain ⟨gob, Hgob⟩ : ∃ b, Hid (b = (decide (0 < n) && !bf)) := ⟨_, hid rfl⟩
  go_upto_region 15 with fail
  go_cut [64] from 56 to 64 (fun s wx => s = .bool gob ∧ wx = wt)
  case first =>
   have z2 := HRf.out.c2
   by_cases hp : 0 < n
   ·have hpi : m > 0 := by have := Hm.out; omega
    cases hbf : bf
    case true =>
     rw [hbf] at z2
     have Hcc : Hid (gob = false) := hid (by rw [Hgob.out, hbf]; simp)
     clear hp
     go_wp2_with fail
     go_meet
     exact ⟨by rw [Hcc.out], rfl⟩
    case false =>
     rw [hbf] at z2
     have Hcc : Hid (gob = true) := hid (by rw [Hgob.out, hbf, decide_eq_true hp]; rfl)
     clear hp
     go_wp2_with fail
     go_meet
     exact ⟨by rw [Hcc.out], rfl⟩
   ·have hpi : ¬ m > 0 := by have := Hm.out; omega
    have Hcc : Hid (gob = false) := hid (by rw [Hgob.out, decide_eq_false hp]; rfl)
    clear hp
    go_wp2_with fail
    go_meet
    exact ⟨by rw [Hcc.out], rfl⟩
  obtain ⟨rfl, hwc⟩ := hcut
  rw [hwc]
  clear hwc
  cases hgob : gob
  case false =>
   obtain ⟨rf, Hrf⟩ : ∃ x : Rv, Hid (x = ⟨2, zr, zr, c, ts, 0, 0, ⟨#[]⟩⟩) := ⟨_, hid rfl⟩
   have HDf : Hid (Dk wt V rf sf) := hid (by rw [Hrf.out]; exact HDf0.out)
   have HRl := hid (lt_of_heap HRf.out.blk)
   have Hc2 := hid HRf.out.c2
   have HCv : Hid (∀ W, Apart [] w W → Sem.run Tryz.prog (convert 29 9 (.slice sl.p N sl.c)) W = .ok (.string (strB bs)) W) := hid (fun W a => by
    have := conv_bytes (HG.out.rd.kept0 a) HG.out.len HG.out.ok
    rw [Hsn.out] at this
    exact this)
   go_upto_region 32 with fail
   cases hbf : bf
   case true =>
    rw [hbf] at Hc2
    have Hno : Hid (rdOk 2 bs = false) := hid (by
     cases c : rdOk 2 bs
     ·rfl
     ·exfalso
      have h1 := (HI2.out c).1
      rw [hbf] at h1
      cases h1)
    refine wp_region_held_drew (S := fun W => Apart [] wt W) (by kernel_rfl) (Apart.refl [] wt).drew fun hHeld => ?_
    generalize wt.drew = wd at *
    refine zt 0 191 ?_
    refine zt 1 192 ?_
    refine zt 2 193 ?_
    refine zu 3 194 rfl (fun W hSW => by have z : W.cell? ⟨R, 2, none⟩ = some (.bool true) := (hSW.cell HRl.out (by simp)).trans Hc2.out; go_simp <;> rfl) ?_
    refine zt 4 195 ?_
    simp only [zA,zB,zC,zD,zF]
    refine tu 5 196 rfl ?_
    simp only [zA,zB,zC,zD,zF]
    refine tu 8 199 rfl ?_
    simp only [zA,zB,zC,zD,zF]
    refine tu 9 200 rfl ?_
    simp only [zA,zB,zC,zD,zF]
    refine wpAnyH_pass 6 (o := ⟨some 197, _, _, _, _, _⟩) (by kernel_rfl) rfl (by kernel_rfl) (by assumption) ?_
    simp only [zA,zB,zC,zD,zF]
    refine tu 7 198 rfl ?_
    simp only [zA,zB,zC,zD,zF]
    refine tu 10 201 rfl ?_
    refine zt 11 202 ?_
    simp only [zA,zB,zC,zD,zF]
    refine wpAnyH_done (by kernel_rfl) ?_ _
    have HAn := hid hHeld
    clear hHeld
    go_wp2_with fail
    go_ret2
    exact .inr ⟨Hno.out, rfl, HRf.out.ap.trans HAn.out⟩
   case false =>
    rw [hbf] at Hc2
    obtain ⟨hgb, hdb, es, hes, hts, heg⟩ := HI1.out hbf
    have Hjx : Hid (j = x) := hid (by
     have h1 := Hgob.out
     rw [hgob, hbf] at h1
     have h2 : decide (0 < n) = false := by simpa using h1.symm
     have := of_decide_eq_false h2
     have := Hnj.out
     omega)
    have Hrow : Hid (rowR (bs.drop 1) 2 = (c, bs.drop g.at_)) := hid (by
     have := rowDD_one (bs := bs) (a := 1) (b := false) (size := 2) (by rw [← Hg.out]; exact hgb)
     rw [← Hg.out, ← Hc.out] at this
     exact this.2)
    have Hv1 : Hid (readV 2 bs = .set c es) := hid (by
     rw [readV_two Hrow.out hdb, ← Hx.out, ← Hus.out, ← Hjx.out, hes])
    have Hts := hid hts
    have Heg := hid heg
    clear hgb hdb hes hts heg
    obtain ⟨v, Hv⟩ : ∃ v : Vl, Hid (v = .set c (canE (flatT es))) := ⟨_, hid rfl⟩
    have Hvr : Hid (rvO v ts = rf) := hid (by rw [Hv.out, Hrf.out]; rfl)
    have Hcg := hid (Heg.out.gs Hgc.out)
    have HFm : Hid (formV v = setB c (canE (flatT es))) := hid (by rw [Hv.out]; rfl)
    have Hcl : Hid ((canE ts).length ≤ 500 ∧ ts.length ≤ 10000) := hid (by
     have h1 := canE_len ts
     have h2 := Htl.out
     have h3 := Hj32.out
     omega)
    have HFo : Hid (∀ W, Apart [] wt W → Calls Tryz.prog 44 #[.pointer (some ⟨V, 0, none⟩)] W fun x w' => ∃ s', x = .returned (.slice s'.p s'.n s'.c) ∧ Bf W w' s' (formV v)) := hid (fun W aW => by
     rw [HFm.out, ← Hts.out]
     have hd := HDf.out.kept0 aW
     rw [Hrf.out] at hd
     exact dform_set hd rfl Hcl.out.2 Hgc.out.sm (canE_els ts) Hcl.out.1 (fun y hy => by rw [Hts.out] at hy; have := (Hcg.out.2 y hy).2; omega) (fun y hy => by
      have h1 := (canE_mem hy).1
      rw [h1]
      show Tr ts y.e (rowT ts y.e)
      rw [Hts.out]
      exact Heg.out.tr y.e))
    have HU2 : Hid (U8 (formV v)) := hid (formV_u8 v)
    by_cases he : formV v = bs
    ·have Hne : Hid (((strB (formV v)).toList != (strB bs).toList) = false) := hid (by rw [he]; simp)
     have HY := hid (set_yes HU.out Hl.out Hv1.out Heg.out Hgc.out (by rw [← HFm.out]; exact he))
     have Hyes := hid HY.out.1
     have Hrv : Hid (readV 2 bs = v) := hid (by rw [Hv.out]; exact HY.out.2.1)
     have HRl2 : Hid (Rl v ts) := hid (by rw [Hv.out, Hts.out]; exact HY.out.2.2)
     refine wp_region_held_drew (S := fun W => Apart [] wt W) (by kernel_rfl) (Apart.refl [] wt).drew fun hHeld => ?_
     generalize wt.drew = wd at *
     refine zt 0 191 ?_
     refine zt 1 192 ?_
     refine zt 2 193 ?_
     refine zu 3 194 rfl (fun W hSW => by have z : W.cell? ⟨R, 2, none⟩ = some (.bool false) := (hSW.cell HRl.out (by simp)).trans Hc2.out; go_simp <;> rfl) ?_
     refine zt 4 195 ?_
     refine zt 5 196 ?_
     refine zt 8 199 ?_
     simp only [zA,zB,zC,zD,zF]
     refine tk 9 200 (.string (strB bs)) rfl ?_ ?_
     ·intro W hSW; have hcv := HCv.out W (HRf.out.ap.trans hSW); go_simp
     simp only [zA,zB,zC,zD,zF]
     refine zQ 6 fun KK hKK => ?_
     go_simp
     refine (HFo.out wd hHeld).mono ?_
     rintro _ wa ⟨sf2, rfl, bff⟩
     have hHx := hHeld.trans bff.nw.ap
     try dsimp only
     refine hKK.out _ _ hHx (fun hHeld => ?_)
     clear hKK KK
     try simp only [zA,zB,zC,zD,zF]
     refine zQ 7 fun KK hKK => ?_
     have hcv := conv_bytes (w := wa) (Rd.own bff.nw.own) bff.len.symm bff.nw.ok
     go_simp
     refine hKK.out _ _ hHeld (fun hHeld => ?_)
     clear hKK KK
     try simp only [zA,zB,zC,zD,zF]
     refine tk 10 201 (.bool false) rfl ?_ ?_
     ·intro W hSW; have hne := Hne.out; go_simp
     refine zt 11 202 ?_
     simp only [zA,zB,zC,zD,zF]
     refine wpAnyH_done (by kernel_rfl) ?_ _
     have HAn := hid hHeld
     clear hHeld bff
     have HDz := hid (HDf.out.kept0 HAn.out)
     go_wp2_with fail
     go_ret2
     exact .inl ⟨Hyes.out, ⟨V, sf, ts, rfl, HV.out, by rw [Hrv.out, Hvr.out]; exact HDz.out, by rw [Hrv.out]; exact HRl2.out⟩, HRf.out.ap.trans HAn.out⟩
    ·have Hne : Hid (((strB (formV v)).toList != (strB bs).toList) = true) := hid (by
      have := strB_eq HU2.out HU.out
      rw [decide_eq_false he] at this
      rw [bne, this]; rfl)
     have Hno : Hid (rdOk 2 bs = false) := hid (set_no HU.out Hl.out Hv1.out (by rw [← HFm.out]; exact he))
     refine wp_region_held_drew (S := fun W => Apart [] wt W) (by kernel_rfl) (Apart.refl [] wt).drew fun hHeld => ?_
     generalize wt.drew = wd at *
     refine zt 0 191 ?_
     refine zt 1 192 ?_
     refine zt 2 193 ?_
     refine zu 3 194 rfl (fun W hSW => by have z : W.cell? ⟨R, 2, none⟩ = some (.bool false) := (hSW.cell HRl.out (by simp)).trans Hc2.out; go_simp <;> rfl) ?_
     refine zt 4 195 ?_
     refine zt 5 196 ?_
     refine zt 8 199 ?_
     simp only [zA,zB,zC,zD,zF]
     refine tk 9 200 (.string (strB bs)) rfl ?_ ?_
     ·intro W hSW; have hcv := HCv.out W (HRf.out.ap.trans hSW); go_simp
     simp only [zA,zB,zC,zD,zF]
     refine zQ 6 fun KK hKK => ?_
     go_simp
     refine (HFo.out wd hHeld).mono ?_
     rintro _ wa ⟨sf2, rfl, bff⟩
     have hHx := hHeld.trans bff.nw.ap
     try dsimp only
     refine hKK.out _ _ hHx (fun hHeld => ?_)
     clear hKK KK
     try simp only [zA,zB,zC,zD,zF]
     refine zQ 7 fun KK hKK => ?_
     have hcv := conv_bytes (w := wa) (Rd.own bff.nw.own) bff.len.symm bff.nw.ok
     go_simp
     refine hKK.out _ _ hHeld (fun hHeld => ?_)
     clear hKK KK
     try simp only [zA,zB,zC,zD,zF]
     refine tk 10 201 (.bool true) rfl ?_ ?_
     ·intro W hSW; have hne := Hne.out; have hnp := bne_iff_ne.1 hne; go_simp
     refine zt 11 202 ?_
     simp only [zA,zB,zC,zD,zF]
     refine wpAnyH_done (by kernel_rfl) ?_ _
     have HAn := hid hHeld
     clear hHeld bff
     go_wp2_with fail
     go_ret2
     exact .inr ⟨Hno.out, rfl, HRf.out.ap.trans HAn.out⟩
  case true =>
   have Hpb : Hid (0 < n ∧ bf = false) := hid (by
    have h1 := Hgob.out
    rw [hgob] at h1
    have h2 := (Bool.and_eq_true _ _ ▸ h1.symm)
    exact ⟨of_decide_eq_true h2.1, by simpa using h2.2⟩)
   have HR4 : Hid (Dr w wt R sl bs q false) := hid (by rw [← Hpb.out.2]; exact HRf.out)
   have HC := hid (dnumber_ok HR4.out (k := 1) (by omega))
   obtain ⟨k, Hk⟩ : ∃ x, Hid (x = dnum bs q 1) := ⟨_, hid rfl⟩
   obtain ⟨q1, Hq1⟩ : ∃ x, Hid (x = dat bs q 1) := ⟨_, hid rfl⟩
   obtain ⟨b1, Hb1'⟩ : ∃ x, Hid (x = (false || dbad bs q 1)) := ⟨_, hid rfl⟩
   rw [← Hk.out, ← Hq1.out, ← Hb1'.out] at HC
   have Hk256 : Hid (k < 256) := hid (by rw [Hk.out]; exact dnum_lt HU.out _ 1)
   go_upto_region 18 with (
    go_at_call 62
    refine HC.out.mono ?_
    rintro _ w5 ⟨rfl, d5, a5⟩
    have HR5 := hid d5
    have HD5 := hid (HDf0.out.kr HR4.out a5 (by have := HVR.out; omega))
    have HN5 : Hid (Nw w w5 96 3 sf (tgL ts)) := hid ⟨own_apart HNf.out.own a5 (fun z hz hm => by
     obtain ⟨cur, y⟩ := own_typ HNf.out.own hz
     rw [List.mem_singleton.1 hm, HR4.out.blk] at y
     simp at y), HNf.out.new, d5.ap⟩
    clear d5 a5)
   have Hq1N : Hid (q1 ≤ N ∧ N ≤ 64) := hid ⟨by rw [HNN.out]; exact HR5.out.at_, by rw [HNN.out]; exact Hl.out⟩
   obtain ⟨bd, Hbd⟩ : ∃ b, Hid (b = (decide (k < 1) || (decide (8 < k) || decide (N < q1 + k)))) := ⟨_, hid rfl⟩
   go_cut [85] from 69 to 85 (fun s wx => s = .bool bd ∧ wx = w5)
   case first =>
    obtain ⟨mk, Hmk⟩ : ∃ x : Int, Hid (x = (k : Int)) := ⟨_, hid rfl⟩
    obtain ⟨mq, Hmq⟩ : ∃ x : Int, Hid (x = (q1 : Int)) := ⟨_, hid rfl⟩
    have z1 : w5.cell? ⟨R, 1, none⟩ = some (.int .i64 mq) := by rw [Hmq.out]; exact HR5.out.c1
    have hw : wrap64 (mq + (k : Int)) = mq + (k : Int) := IntWalk.wrap64_in _ (by have := Hq1N.out; have := Hmq.out; have := Hk256.out; omega)
    by_cases h1 : k < 1
    ·have Hcc : Hid (bd = true) := hid (by rw [Hbd.out, decide_eq_true h1]; rfl)
     have h1i : decide ((k : Int) < 1) = true := by simp only [decide_eq_true_eq]; omega
     clear h1
     go_wp2_with fail
     go_meet
     exact ⟨by rw [Hcc.out], rfl⟩
    ·have h1i : ¬ ((k : Nat) : Int) < 1 := by omega
     have H1 := hid h1
     clear h1
     by_cases h8 : 8 < k
     ·have Hcc : Hid (bd = true) := hid (by rw [Hbd.out, decide_eq_false H1.out, decide_eq_true h8]; rfl)
      have h8i : ((k : Nat) : Int) > 8 := by omega
      clear h8
      go_wp2_with fail
      go_meet
      exact ⟨by rw [Hcc.out], rfl⟩
     ·have h8i : ¬ ((k : Nat) : Int) > 8 := by omega
      have H8 := hid h8
      clear h8
      by_cases hN : N < q1 + k
      ·have Hcc : Hid (bd = true) := hid (by rw [Hbd.out, decide_eq_false H1.out, decide_eq_false H8.out, decide_eq_true hN]; rfl)
       have hNi : mq + (k : Int) > (N : Int) := by have := Hmq.out; omega
       clear hN
       go_wp2_with fail
       go_meet
       exact ⟨by rw [Hcc.out], rfl⟩
      ·have Hcc : Hid (bd = false) := hid (by rw [Hbd.out, decide_eq_false H1.out, decide_eq_false H8.out, decide_eq_false hN]; rfl)
       have hNi : ¬ mq + (k : Int) > (N : Int) := by have := Hmq.out; omega
       clear hN
       go_wp2_with fail
       go_meet
       exact ⟨by rw [Hcc.out], rfl⟩
   obtain ⟨rfl, hwc⟩ := hcut
   rw [hwc]
   clear hwc
   have HE : Hid (rdOk 2 bs = true → dbad bs q 1 = false ∧ ∃ (y : En) (r : List En), y.e.size = k ∧ 1 ≤ k ∧ k ≤ 8 ∧ q1 + k ≤ N ∧ bs.drop (q1 + k) = rowB y.t 2 ++ esB r ∧ Wi y.t c ∧ ∃ es : List En, readV 2 bs = .set c es ∧ es.length = x ∧ Gs c es ∧ (∀ y ∈ es, 1 ≤ y.e.size ∧ y.e.size ≤ 8) ∧ es.drop (j + 1) = r) := hid (fun h => by
    obtain ⟨-, es, e1, e2, e3, e4, e5⟩ := HI2.out h
    have hj : j < es.length := by have := Hnj.out; have := Hpb.out.1; omega
    have e6 : es.drop j = es[j] :: es.drop (j + 1) := List.drop_eq_getElem_cons hj
    rw [e6] at e5
    have hm := List.getElem_mem hj
    obtain ⟨f1, f2, f3, f4, f5⟩ := enB_drop e5 (e4 _ hm).2
    rw [← Hk.out] at f2
    rw [← f2, ← Hq1.out] at f3 f4
    refine ⟨f1, es[j], es.drop (j + 1), f2.symm, by rw [f2]; exact (e4 _ hm).1, by rw [f2]; exact (e4 _ hm).2, by rw [HNN.out]; exact f3, f4, e3.wi _ hm, es, e1, e2, e3, e4, rfl⟩)
   cases hbd : bd
   case true =>
    have Hno : Hid (rdOk 2 bs = false) := hid (by
     cases cc : rdOk 2 bs
     ·rfl
     ·exfalso
      obtain ⟨-, y, r, -, f1, f2, f3, -⟩ := HE.out cc
      have h1 := Hbd.out
      rw [hbd, decide_eq_false (by omega : ¬ k < 1), decide_eq_false (by omega : ¬ 8 < k), decide_eq_false (by omega : ¬ N < q1 + k)] at h1
      cases h1)
    go_wp2_with fail
    go_ret2
    exact .inr ⟨Hno.out, rfl, HR5.out.ap⟩
   case false =>
    have Hbb : Hid (1 ≤ k ∧ k ≤ 8 ∧ q1 + k ≤ N) := hid (by
     have h1 := Hbd.out
     rw [hbd] at h1
     obtain ⟨a1, h2⟩ := or_false h1.symm
     obtain ⟨a2, a3⟩ := or_false h2
     have := of_decide_eq_false a1
     have := of_decide_eq_false a2
     have := of_decide_eq_false a3
     omega)
    have Hdb : Hid (dbad bs q 1 = false) := hid (by
     cases cc : dbad bs q 1
     ·rfl
     ·exfalso
      unfold dbad at cc
      have h1 := of_decide_eq_true cc
      have h2 := Hk.out
      unfold dnum at h2
      rw [if_neg (by omega)] at h2
      have := Hbb.out.1
      omega)
    have Hb10 : Hid (b1 = false) := hid (by rw [Hb1'.out, Hdb.out]; rfl)
    rw [Hb10.out] at HR5
    have HqkN : Hid (q1 + k ≤ N) := hid Hbb.out.2.2
    have HRl5 := hid (lt_of_heap HR5.out.blk)
    have Hc15 := hid HR5.out.c1
    have Hadd : Hid (IntKind.i64.wrap ((q1 : Int) + (k : Int)) = ((q1 + k : Nat) : Int)) := hid (by rw [IntKind.wrap_i64]; have := Hbb.out; have := Hq1N.out; omega)
    obtain ⟨s1, Hs1⟩ : ∃ z : Sl, Hid (z = (⟨sl.p, N, sl.c⟩ : Sl).midB q1 (q1 + k)) := ⟨_, hid rfl⟩
    obtain ⟨e, He⟩ : ∃ z, Hid (z = strB ((bs.drop q1).take k)) := ⟨_, hid rfl⟩
    have HcpN : Hid (N ≤ sl.c) := hid (by rw [← Hsn.out]; exact HCp.out)
    have HCv1 : Hid (∀ W, Apart [] w W → Sem.run Tryz.prog (convert 29 9 (.slice s1.p s1.n s1.c)) W = .ok (.string e) W) := hid (fun W a => by
     have h0 : Rd w (⟨sl.p, N, sl.c⟩ : Sl).p (byts bs) := HG.out.rd
     obtain ⟨h1, h2⟩ := h0.midB (s := ⟨sl.p, N, sl.c⟩) HNN.out.symm HcpN.out (l := q1) (k := k) (by rw [← HNN.out]; exact HqkN.out)
     rw [Hs1.out, He.out]
     exact conv_bytes (h1.kept0 a) h2 (Sl.midB_ok (s := ⟨sl.p, N, sl.c⟩) (fun hp => by have h3 := HG.out.ok hp; rw [Hsn.out] at h3; exact h3) HcpN.out HqkN.out))
    have Hes : Hid (e.size = k) := hid (by rw [He.out, strB_size, List.length_take, List.length_drop, ← HNN.out]; have := HqkN.out; omega)
    go_upto_region 20 with fail
    refine wp_region_held_drew (S := fun W => Apart [] w5 W) (by kernel_rfl) (Apart.refl [] w5).drew fun hHeld => ?_
    generalize w5.drew = wd at *
    refine zt 0 86 ?_
    refine zt 1 87 ?_
    refine zt 2 88 ?_
    refine zt 3 89 ?_
    refine zu 4 90 rfl (fun W hSW => by have z : W.cell? ⟨R, 1, none⟩ = some (.int .i64 (q1 : Nat)) := (hSW.cell HRl5.out (by simp)).trans Hc15.out; go_simp <;> rfl) ?_
    refine zt 5 91 ?_
    refine zt 6 92 ?_
    refine zt 7 93 ?_
    refine zu 8 94 rfl (fun W hSW => by have z : W.cell? ⟨R, 1, none⟩ = some (.int .i64 (q1 : Nat)) := (hSW.cell HRl5.out (by simp)).trans Hc15.out; go_simp <;> rfl) ?_
    refine zt 9 95 ?_
    simp only [zA,zB,zC,zD,zF]
    refine tk 10 96 (.int .i64 ((q1 + k : Nat) : Int)) rfl ?_ ?_
    ·intro W hSW; have hx := Hadd.out; go_simp
    simp only [zA,zB,zC,zD,zF]
    refine tk 11 97 (.slice s1.p s1.n s1.c) rfl ?_ ?_
    ·intro W hSW; rw [Hs1.out]; exact ex_midB ⟨sl.p, N, sl.c⟩ q1 (q1 + k) _ _ _ rfl rfl rfl rfl (Nat.le_add_right _ _) (Nat.le_trans HqkN.out (by have h1 := HCp.out; rw [Hsn.out] at h1; exact h1))
    simp only [zA,zB,zC,zD,zF]
    refine tk 12 98 (.string e) rfl ?_ ?_
    ·intro W hSW; have hcv := HCv1.out W (HR5.out.ap.trans hSW); go_simp
    refine zt 13 11 ?_
    simp only [zA,zB,zC,zD,zF]
    refine wpAnyH_done (by kernel_rfl) ?_ _
    have HA6 := hid hHeld
    clear hHeld
    generalize wd = w6 at *
    have HR6 := hid (HR5.out.kept0 HA6.out)
    have HD6 := hid (HD5.out.kept0 HA6.out)
    have HN6 := hid (HN5.out.kept HA6.out)
    have z1 := HR6.out.c1
    have f1 := HR6.out.fr 1
    obtain ⟨q2, Hq2⟩ : ∃ z, Hid (z = q1 + k) := ⟨_, hid rfl⟩
    have hw : wrap64 ((q1 : Int) + (k : Int)) = (q2 : Int) := by
     rw [IntWalk.wrap64_in _ (by have := Hbb.out; have := Hq1N.out; omega), Hq2.out]
     omega
    go_upto_region 22 with fail
    clear z1 f1 hw
    have HR7 := hid (HR6.out.setAt (b := q2) (by rw [Hq2.out, ← HNN.out]; exact HqkN.out))
    have HS7 : Hid (Apart [R] w6 (w6.setCell ⟨R, 1, none⟩ (.int .i64 (q2 : Int)))) := hid ((Apart.refl [R] w6).setCell (.inl (by simp)) _)
    have HD7 := hid (HD6.out.kr HR6.out HS7.out (by have := HVR.out; omega))
    have HN7 : Hid (Nw w (w6.setCell ⟨R, 1, none⟩ (.int .i64 (q2 : Int))) 96 3 sf (tgL ts)) := hid ⟨own_apart HN6.out.own HS7.out (fun z hz hm => by
     obtain ⟨cur, y⟩ := own_typ HN6.out.own hz
     rw [List.mem_singleton.1 hm, HR6.out.blk] at y
     simp at y), HN6.out.new, HR7.out.ap⟩
    generalize w6.setCell ⟨R, 1, none⟩ (.int .i64 (q2 : Int)) = w7 at *
    have HT := hid (drd_tags HR7.out HD7.out HN7.out HV.out (by show ts.length ≤ 9000; have := Htl.out; have := Hj32.out; omega) e)
    obtain ⟨g3, Hg3⟩ : ∃ z, Hid (z = rowDD bs q2 false 2 false) := ⟨_, hid rfl⟩
    rw [← Hg3.out] at HT
    obtain ⟨b3, Hb3⟩ : ∃ z, Hid (z = (g3.bad || overB c g3.u 8)) := ⟨_, hid rfl⟩
    obtain ⟨ts3, Hts3⟩ : ∃ z, Hid (z = ts ++ tagL e g3.u 8) := ⟨_, hid rfl⟩
    have HT2 : Hid (Calls Tryz.prog 64 #[.pointer (some ⟨R, 0, none⟩), .pointer (some ⟨V, 0, none⟩), .string e] w7 fun x w' => x = .returned (.tuple #[]) ∧ Hid (Dr w w' R sl bs g3.at_ b3) ∧ Hid (∃ s', Dk w' V ⟨2, zr, zr, c, ts3, 0, 0, ⟨#[]⟩⟩ s' ∧ Nw w w' 96 3 s' (tgL ts3))) := hid (HT.out.mono (by
     rintro x w' ⟨h1, h2, s', h3, h4⟩
     refine ⟨h1, hid ?_, hid ⟨s', ?_, ?_⟩⟩
     ·rw [Hb3.out]; exact h2
     ·rw [Hts3.out]; exact h3
     ·rw [Hts3.out]; exact h4))
    clear HT HC HR4 HR5 HD5 HN5 HR6 HD6 HN6 HR7 HD7 HN7
    have Hw9 : Hid (wrap64 (m - 1) = m - 1) := hid (IntWalk.wrap64_in _ (by have := Hm.out; have := Hn255.out; omega))
    go_wp2_with (
     go_at_call 64
     refine HT2.out.mono ?_
     rintro _ w8 ⟨rfl, d8, d9⟩
     have HR8 := hid d8.out
     have HW8 := hid d9.out
     clear d8 d9)
    obtain ⟨s8, hk8, hn8⟩ := HW8.out
    have HD8 := hid hk8
    have HN8 := hid hn8
    clear hk8 hn8
    have Hmore : Hid (b3 = false → g.bad = false ∧ dbad bs g.at_ 1 = false ∧ ∃ es, esI (j + 1) us = (es, bs.drop g3.at_) ∧ ts3 = flatT es ∧ Eg c es) := hid (fun h => by
     rw [Hb3.out] at h
     obtain ⟨h1, h2⟩ := or_false h
     obtain ⟨a1, a2, es, a3, a4, a5⟩ := HI1.out Hpb.out.2
     have h3 := rowDD_one (bs := bs) (a := q2) (b := false) (size := 2) (by rw [← Hg3.out]; exact h1)
     rw [← Hg3.out, Hq2.out, Hq1.out] at h3
     have h4 := esI_more a3 Hdb.out Hk.out.symm h3.2
     rw [← Hq1.out, ← He.out] at h4
     refine ⟨a1, a2, es ++ [⟨e, g3.u⟩], h4, ?_, ⟨fun y hy => ?_, fun y hy => ?_, fun y hy => ?_⟩⟩
     ·rw [Hts3.out, flatT_app, a4]
      simp [flatT]
     ·rcases List.mem_append.1 hy with hy | hy
      ·exact a5.sz y hy
      ·rw [List.mem_singleton.1 hy]
       show 1 ≤ e.size ∧ e.size ≤ 8
       rw [Hes.out]; exact ⟨Hbb.out.1, Hbb.out.2.1⟩
     ·rcases List.mem_append.1 hy with hy | hy
      ·exact a5.cn y hy
      ·rw [List.mem_singleton.1 hy]
       show Cn g3.u
       rw [Hg3.out]; exact rowDD_cn HU.out _ _
     ·rcases List.mem_append.1 hy with hy | hy
      ·exact a5.ov y hy
      ·rw [List.mem_singleton.1 hy]; exact h2)
    have Hgood : Hid (rdOk 2 bs = true → b3 = false ∧ ∃ es, readV 2 bs = .set c es ∧ es.length = x ∧ Gs c es ∧ (∀ y ∈ es, 1 ≤ y.e.size ∧ y.e.size ≤ 8) ∧ bs.drop g3.at_ = esB (es.drop (j + 1))) := hid (fun h => by
     obtain ⟨-, y, r, -, -, -, -, f4, f5, es, f6, f7, f8, f9, f10⟩ := HE.out h
     rw [← Hq2.out] at f4
     obtain ⟨h1, h2, h3⟩ := rowDD_good1 (f5.rw2' Hgc.out) f4
     rw [← Hg3.out] at h1 h2 h3
     refine ⟨?_, es, f6, f7, f8, f9, by rw [h3, f10]⟩
     rw [Hb3.out, h1, h2, overB_false (fun i hi => (f5.2.2 i hi).2)]; rfl)
    have Hj2 : Hid (2 * (j + 1) ≤ g3.at_) := hid (by
     have h1 := rowDD_ge bs q2 false 2 false (by rw [Hq2.out, ← HNN.out]; exact HqkN.out)
     rw [← Hg3.out] at h1
     have h2 := (dfit Hdb.out).2.2.1
     rw [← Hq1.out] at h2
     have := Hq2.out
     have := Hjq.out
     have := Hbb.out.1
     omega)
    have Htl2 : Hid (ts3.length ≤ 8 * (j + 1)) := hid (by
     rw [Hts3.out, List.length_append]
     have := tagL_len e g3.u 8
     have := Htl.out
     omega)
    exact ⟨⟨j + 1, n - 1, g3.at_, m - 1, b3, ts3, s8, by rw [Hw9.out], hid ⟨by have := Hm.out; have := Hpb.out.1; omega, by have := Hn255.out; omega⟩, hid (by have := Hnj.out; have := Hpb.out.1; omega), Hj2, Htl2, HR8, HD8, HN8, Hmore, Hgood⟩, by rw [Hw9.out]; simp [natV]; have := Hpb.out.1; have := Hm.out; omega⟩
end Go.Proofs.YtdbeeikjngnnnaaGreat.ty
