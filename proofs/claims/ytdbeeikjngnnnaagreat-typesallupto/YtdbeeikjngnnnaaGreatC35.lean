import Derived.Test.YtdbeeikjngnnnaaGreatC32
import Derived.Test.YtdbeeikjngnnnaaGreatC34
namespace Go.Proofs.YtdbeeikjngnnnaaGreat.ty
open Go.ChangeShapes Go.WideShapes Go.ChangeAt Go.RowKit
set_option linter.unusedVariables false
set_option linter.unusedSimpArgs false
set_option maxRecDepth 100000
set_option maxHeartbeats 8000000
theorem rdOk_rgs {bs : List Nat} (h8 : U8 bs) (hl : bs.length ≤ 64) (c : rdOk 4 bs = true) : dbad bs 1 3 = false ∧ dbad bs (dat bs 1 3) 1 = false ∧ dnum bs (dat bs 1 3) 1 < 8 ∧ bs.length - dat bs (dat bs 1 3) 1 ≤ 59 ∧ (dnum bs 1 3 = 0 → dnum bs (dat bs 1 3) 1 = 0 ∧ bs.length ≤ dat bs (dat bs 1 3) 1) := by
 obtain ⟨c1, c2⟩ := rdOk_form c
 have gd := (readV_gd (k := 4) (by omega) (by omega) h8 hl c).1
 obtain ⟨s, a, t, e⟩ : ∃ s a t, readV 4 bs = .rgs s a t := ⟨_, _, _, rfl⟩
 rw [e] at c1 c2 gd
 obtain ⟨⟨s0, s1⟩, ⟨a0, t1⟩, hz⟩ : (0 ≤ s ∧ s ≤ 16777215) ∧ (0 ≤ a ∧ t.size ≤ 59) ∧ (s = 0 → a = 0 ∧ t = ⟨#[]⟩) := gd
 have hr : rtR s a t = true := c1
 have ha : a ≤ 7 := by
  unfold rtR at hr
  have h1 := (Bool.and_eq_true _ _ ▸ hr).1
  unfold isA at h1
  simp at h1
  omega
 have hb : bs = 4 :: (leB s.toNat 3 ++ (a.toNat % 256) :: bsk t) := c2.symm
 have d1 : bs.drop 1 = leB s.toNat 3 ++ ((a.toNat % 256) :: bsk t) := by rw [hb]; rfl
 have hlen : bs.length = 5 + (bsk t).length := by rw [hb]; simp only [List.length_cons, List.length_append, leB_len]; omega
 have b1 : dbad bs 1 3 = false := by unfold dbad; exact decide_eq_false (by omega)
 obtain ⟨f1, f2, f3, f4⟩ := dfit b1
 have n1 : dnum bs 1 3 = s.toNat := by
  rw [f2, d1, List.take_append_of_le_length (by rw [leB_len]; omega), List.take_of_length_le (by rw [leB_len]; omega), leV_leB, Nat.mod_eq_of_lt (by omega)]
 have d4 : bs.drop 4 = (a.toNat % 256) :: bsk t := by
  have : bs.drop (1 + 3) = (bs.drop 1).drop 3 := by rw [List.drop_drop]
  rw [show 4 = 1 + 3 from rfl, this, d1, List.drop_append_of_le_length (by rw [leB_len]; omega), List.drop_of_length_le (by rw [leB_len]; omega), List.nil_append]
 rw [f3]
 obtain ⟨g1, g2, g3⟩ := drop_head (show bs.drop (1 + 3) = _ from d4)
 have g4 := (dfit g1).2.2.1
 refine ⟨b1, g1, ?_, ?_, ?_⟩
 ·rw [g2]; omega
 ·rw [g4, hlen, bsk_len]; omega
 ·intro h0
  rw [n1] at h0
  obtain ⟨z1, z2⟩ := hz (by omega)
  refine ⟨by rw [g2, z1]; rfl, ?_⟩
  rw [g4, hlen, bsk_len, z2]
  show 5 + 0 ≤ _
  omega
theorem dRead4 {w : World} {sl : Sl} {bs : List Nat} (h : Gv w sl bs) (hcp : sl.n ≤ sl.c) (hl : bs.length ≤ 64) : Calls Tryz.prog 46 #[.int .i64 4, .slice sl.p sl.n sl.c] w fun x w' => RdP w 4 bs x w' := by
 have HCp := hid hcp
 have HN := hid (rnew_ok w 4 (by omega) (by omega))
 have HG := hid h
 have Hl := hid hl
 obtain ⟨N, HNN⟩ : ∃ N, Hid (N = bs.length) := ⟨_, hid rfl⟩
 have hsn : sl.n = N := by rw [HNN.out]; exact h.len.symm
 have hn64 : ¬ ((N : Nat) : Int) > 64 := by rw [HNN.out]; omega
 have HU : Hid (U8 bs) := hid h.u8
 have Hsn := hid hsn
 rw [hsn]
 clear h hl hsn hcp
 go_enter Tryz.func46, Tryz.ntmps46
 go_upto_region 6 with (
  go_at_call 19
  refine HN.out.mono ?_
  rintro _ w1 ⟨V, rfl, hV, dV, aV⟩
  have HA1 := hid aV
  have HV := hid hV
  have HD0 := hid (dk0' dV)
  clear aV dV hV)
 obtain ⟨R, HR⟩ : ∃ R, Hid (R = w1.heap.size) := ⟨_, hid rfl⟩
 obtain ⟨w2, Hw2⟩ : ∃ W, Hid (W = w1.alloc (.cells #[.slice sl.p N sl.c, .int .i64 0, .bool false] 134)) := ⟨_, hid rfl⟩
 have HR2 : Hid (Dr w w2 R sl bs 0 false) := hid (by rw [Hw2.out, HR.out, ← Hsn.out]; exact Dr.new' HG.out Hl.out HA1.out)
 have HA2 : Hid (Apart [] w w2) := hid HR2.out.ap
 have HD2 : Hid (Dk w2 V (rv0 4) ⟨none, 0, 0⟩) := hid (HD0.out.kept0 (by rw [Hw2.out]; exact (Apart.refl [] w1).alloc _))
 have HVR : Hid (V < R) := hid (by rw [HR.out]; exact lt_of_heap HD0.out.dv.blk)
 go_upto_region 7 with (refine wpL_val rfl (.agg #[.slice sl.p N sl.c, .int .i64 0, .bool false]) (ex_build134 _ rfl rfl) ?_)
 rw [← HR.out, ← Hw2.out]
 clear Hw2 HN HD0 HA1
 have HC := hid (dnumber_ok HR2.out (k := 1) (by omega))
 obtain ⟨x0, Hx0⟩ : ∃ x, Hid (x = dnum bs 0 1) := ⟨_, hid rfl⟩
 rw [← Hx0.out] at HC
 by_cases hx : x0 = 4
 case neg =>
  have hxi : ((x0 : Int) != 4) = true := by simp only [bne_iff_ne, ne_eq]; omega
  have Hno : Hid (rdOk 4 bs = false) := hid (rdOk_no (by omega) (by omega) (by rw [← Hx0.out]; exact hx))
  go_wp2_with (
   go_at_call 62
   refine HC.out.mono ?_
   rintro _ w3 ⟨rfl, d3, a3⟩
   have HA3 : Hid (Apart [] w w3) := hid d3.ap
   clear d3 a3)
  go_ret2
  exact .inr ⟨Hno.out, rfl, HA3.out⟩
 case pos =>
 have hxi : ((x0 : Int) != 4) = false := by rw [hx]; rfl
 have Hhd := hid (dnum_head (k := 4) (by omega) (by rw [← Hx0.out]; exact hx))
 clear hx
 go_upto_region 9 with (
  go_at_call 62
  refine HC.out.mono ?_
  rintro _ w3 ⟨rfl, d3, a3⟩
  rw [Hhd.out.1, Hhd.out.2.1] at d3
  have HR3 : Hid (Dr w w3 R sl bs 1 false) := hid d3
  have HD3 := hid (HD2.out.kr HR2.out a3 (by have := HVR.out; omega))
  clear d3 a3)
 obtain ⟨l, hbs⟩ := Hhd.out.2.2
 have Hbs := hid hbs
 clear hbs
 have Hb1 : Hid (bs.drop 1 = l) := hid (by rw [Hbs.out]; rfl)
 clear hxi HC Hx0 Hhd HR2 HD2 HA2
 have HC := hid (dnumber_ok HR3.out (k := 3) (by omega))
 obtain ⟨n1, Hn1⟩ : ∃ x, Hid (x = dnum bs 1 3) := ⟨_, hid rfl⟩
 obtain ⟨q1, Hq1⟩ : ∃ x, Hid (x = dat bs 1 3) := ⟨_, hid rfl⟩
 obtain ⟨b1, Hb1'⟩ : ∃ x, Hid (x = (false || dbad bs 1 3)) := ⟨_, hid rfl⟩
 rw [← Hn1.out, ← Hq1.out, ← Hb1'.out] at HC
 go_upto_region 28 with (
  go_at_call 62
  refine HC.out.mono ?_
  rintro _ w4 ⟨rfl, d4, a4⟩
  have HR4 := hid d4
  have HD4 := hid (HD3.out.kr HR3.out a4 (by have := HVR.out; omega))
  have z26 := HD4.out.dv.stamp
  have f26 : w4.frozen? ⟨V, 26, none⟩ = false := frozen_of_row _ _ _ _ _ HD4.out.dv.blk
  clear d4 a4)
 clear z26 f26
 have HD5 := hid (HD4.out.setRest (r' := ⟨4, zr, zr, zr, [], (n1 : Int), 0, ⟨#[]⟩⟩) 1 (.int .i64 (n1 : Int)) rfl rfl rfl rfl rfl rfl)
 have HR5 := hid (HR4.out.kv HD4.out ((Apart.refl [V] w4).setCell (p := ⟨V, 26, none⟩) (.inl (by simp)) (.int .i64 (n1 : Int))) HV.out)
 generalize w4.setCell ⟨V, 26, none⟩ (.int .i64 (n1 : Int)) = w5 at *
 have HC2 := hid (dnumber_ok HR5.out (k := 1) (by omega))
 obtain ⟨n2, Hn2⟩ : ∃ x, Hid (x = dnum bs q1 1) := ⟨_, hid rfl⟩
 obtain ⟨q2, Hq2⟩ : ∃ x, Hid (x = dat bs q1 1) := ⟨_, hid rfl⟩
 obtain ⟨b2, Hb2⟩ : ∃ x, Hid (x = (b1 || dbad bs q1 1)) := ⟨_, hid rfl⟩
 rw [← Hn2.out, ← Hq2.out, ← Hb2.out] at HC2
 go_upto_region 29 with (
  go_at_call 62
  refine HC2.out.mono ?_
  rintro _ w6 ⟨rfl, d6, a6⟩
  have HR6 := hid d6
  have HD6 := hid (HD5.out.kr HR5.out a6 (by have := HVR.out; omega))
  have z27 := HD6.out.dv.actor
  have f27 : w6.frozen? ⟨V, 27, none⟩ = false := frozen_of_row _ _ _ _ _ HD6.out.dv.blk
  clear d6 a6)
 clear z27 f27
 have HD7 := hid (HD6.out.setRest (r' := ⟨4, zr, zr, zr, [], (n1 : Int), (n2 : Int), ⟨#[]⟩⟩) 2 (.int .i64 (n2 : Int)) rfl rfl rfl rfl rfl rfl)
 have HR7 := hid (HR6.out.kv HD6.out ((Apart.refl [V] w6).setCell (p := ⟨V, 27, none⟩) (.inl (by simp)) (.int .i64 (n2 : Int))) HV.out)
 generalize w6.setCell ⟨V, 27, none⟩ (.int .i64 (n2 : Int)) = w7 at *
 have Hq2N : Hid (q2 ≤ N) := hid (by rw [HNN.out]; exact HR7.out.at_)
 have Hn1b : Hid (n1 < 16777216) := hid (by rw [Hn1.out]; exact dnum_lt HU.out 1 3)
 clear HC HC2 HR3 HD3 HR4 HD4 HR5 HD5 HR6 HD6
 obtain ⟨cnd, Hcnd⟩ : ∃ b, Hid (b = (b2 || (decide (8 ≤ n2) || (decide (59 < N - q2) || (decide (n1 = 0) && (decide (0 < n2) || decide (q2 < N))))))) := ⟨_, hid rfl⟩
 go_cut [180] from 137 to 180 (fun s wx => s = .bool cnd ∧ wx = w7)
 case first =>
  obtain ⟨m1, Hm1⟩ : ∃ x : Int, Hid (x = (n1 : Int)) := ⟨_, hid rfl⟩
  obtain ⟨m2, Hm2⟩ : ∃ x : Int, Hid (x = (n2 : Int)) := ⟨_, hid rfl⟩
  obtain ⟨mq, Hmq⟩ : ∃ x : Int, Hid (x = (q2 : Int)) := ⟨_, hid rfl⟩
  have z1 : w7.cell? ⟨R, 1, none⟩ = some (.int .i64 mq) := by rw [Hmq.out]; exact HR7.out.c1
  have z2 := HR7.out.c2
  have z26 : w7.cell? ⟨V, 26, none⟩ = some (.int .i64 m1) := by rw [Hm1.out]; exact HD7.out.dv.stamp
  have z27 : w7.cell? ⟨V, 27, none⟩ = some (.int .i64 m2) := by rw [Hm2.out]; exact HD7.out.dv.actor
  have HN64 : Hid (q2 ≤ N ∧ N ≤ 64) := hid ⟨Hq2N.out, by rw [HNN.out]; exact Hl.out⟩
  have hw : wrap64 ((N : Int) - mq) = (N : Int) - mq := IntWalk.wrap64_in _ (by have := HN64.out; have := Hmq.out; omega)
  cases hb2 : b2
  case true =>
   rw [hb2] at z2
   have Hc : Hid (cnd = true) := hid (by rw [Hcnd.out, hb2]; rfl)
   go_wp2_with fail
   go_meet
   exact ⟨by rw [Hc.out], rfl⟩
  case false =>
   rw [hb2] at z2
   by_cases h8 : 8 ≤ n2
   ·have Hc : Hid (cnd = true) := hid (by rw [Hcnd.out, hb2, decide_eq_true h8]; rfl)
    have h8i : m2 ≥ 8 := by have := Hm2.out; omega
    clear h8
    go_wp2_with fail
    go_meet
    exact ⟨by rw [Hc.out], rfl⟩
   ·have h8i : ¬ m2 ≥ 8 := by have := Hm2.out; omega
    have H8 := hid h8
    clear h8
    by_cases h59 : 59 < N - q2
    ·have Hc : Hid (cnd = true) := hid (by rw [Hcnd.out, hb2, decide_eq_false H8.out, decide_eq_true h59]; rfl)
     have h59i : ((N : Int) - mq) > 59 := by have := Hmq.out; omega
     clear h59
     go_wp2_with fail
     go_meet
     exact ⟨by rw [Hc.out], rfl⟩
    ·have h59i : ¬ ((N : Int) - mq) > 59 := by have := Hmq.out; have := HN64.out; omega
     have H59 := hid h59
     clear h59
     by_cases h0 : n1 = 0
     ·have h0i : (m1 == 0) = true := by rw [Hm1.out, h0]; rfl
      by_cases hn2 : 0 < n2
      ·have Hc : Hid (cnd = true) := hid (by rw [Hcnd.out, hb2, decide_eq_false H8.out, decide_eq_false H59.out, decide_eq_true h0, decide_eq_true hn2]; rfl)
       have hn2i : m2 > 0 := by have := Hm2.out; omega
       clear h0 hn2
       go_wp2_with fail
       go_meet
       exact ⟨by rw [Hc.out], rfl⟩
      ·have hn2i : ¬ m2 > 0 := by have := Hm2.out; omega
       by_cases hq : q2 < N
       ·have Hc : Hid (cnd = true) := hid (by rw [Hcnd.out, hb2, decide_eq_false H8.out, decide_eq_false H59.out, decide_eq_true h0, decide_eq_false hn2, decide_eq_true hq]; rfl)
        have hqi : mq < ((N : Nat) : Int) := by have := Hmq.out; omega
        clear h0 hn2 hq
        go_wp2_with fail
        go_meet
        exact ⟨by rw [Hc.out], rfl⟩
       ·have Hc : Hid (cnd = false) := hid (by rw [Hcnd.out, hb2, decide_eq_false H8.out, decide_eq_false H59.out, decide_eq_true h0, decide_eq_false hn2, decide_eq_false hq]; rfl)
        have hqi : ¬ mq < ((N : Nat) : Int) := by have := Hmq.out; omega
        clear h0 hn2 hq
        go_wp2_with fail
        go_meet
        exact ⟨by rw [Hc.out], rfl⟩
     ·have h0i : (m1 == 0) = false := by simp only [beq_eq_false_iff_ne]; have := Hm1.out; omega
      have Hc : Hid (cnd = false) := hid (by rw [Hcnd.out, hb2, decide_eq_false H8.out, decide_eq_false H59.out, decide_eq_false h0]; rfl)
      clear h0
      go_wp2_with fail
      go_meet
      exact ⟨by rw [Hc.out], rfl⟩
 obtain ⟨rfl, hwc⟩ := hcut
 rw [hwc]
 clear hwc
 cases hcnd : cnd
 case true =>
  have Hno : Hid (rdOk 4 bs = false) := hid (by
   cases c : rdOk 4 bs
   ·rfl
   ·exfalso
    obtain ⟨e1, e2, e3, e4, e5⟩ := rdOk_rgs HU.out Hl.out c
    rw [← Hq1.out] at e2 e3 e4 e5
    rw [← Hn2.out] at e3 e5
    rw [← Hq2.out, ← HNN.out] at e4 e5
    rw [← Hn1.out] at e5
    have h1 := Hcnd.out
    rw [hcnd, Hb2.out, Hb1'.out, e1, e2, decide_eq_false (by omega : ¬ 8 ≤ n2), decide_eq_false (by omega : ¬ 59 < N - q2)] at h1
    simp only [Bool.or_false, Bool.false_or] at h1
    have h2 := (Bool.and_eq_true _ _ ▸ h1.symm)
    have h3 := of_decide_eq_true h2.1
    obtain ⟨h4, h5⟩ := e5 h3
    have h6 := h2.2
    rw [decide_eq_false (by omega : ¬ 0 < n2), decide_eq_false (by omega : ¬ q2 < N)] at h6
    cases h6)
  go_wp2_with fail
  go_ret2
  exact .inr ⟨Hno.out, rfl, HR7.out.ap⟩
 case false =>
 have Hcc : Hid (b2 = false ∧ n2 < 8 ∧ N - q2 ≤ 59 ∧ (n1 = 0 → n2 = 0 ∧ N ≤ q2)) := hid (by
  have h1 := Hcnd.out
  rw [hcnd] at h1
  obtain ⟨a1, h2⟩ := or_false h1.symm
  obtain ⟨a2, h3⟩ := or_false h2
  obtain ⟨a3, h4⟩ := or_false h3
  refine ⟨a1, by have := of_decide_eq_false a2; omega, by have := of_decide_eq_false a3; omega, fun h0 => ?_⟩
  rw [decide_eq_true h0, Bool.true_and] at h4
  obtain ⟨a4, a5⟩ := or_false h4
  exact ⟨by have := of_decide_eq_false a4; omega, by have := of_decide_eq_false a5; omega⟩)
 obtain ⟨s1, Hs1⟩ : ∃ x : Sl, Hid (x = (⟨sl.p, N, sl.c⟩ : Sl).postB q2) := ⟨_, hid rfl⟩
 have HRd1 : Hid (Rd w s1.p (byts (bs.drop q2)) ∧ (bs.drop q2).length = s1.n ∧ s1.ok) := hid (by
  rw [Hs1.out]
  have h1 : Rd w (⟨sl.p, N, sl.c⟩ : Sl).p (byts bs) := HG.out.rd
  refine ⟨h1.postB HNN.out.symm (by rw [← Hsn.out]; exact HCp.out) (by rw [← HNN.out]; exact Hq2N.out), ?_, Sl.postB_ok (by have := HG.out.ok; intro hp; have h2 := this hp; rw [Hsn.out] at h2; exact h2) _⟩
  rw [List.length_drop, ← HNN.out]; rfl)
 have hcv1 : Sem.run Tryz.prog (convert 29 9 (.slice s1.p s1.n s1.c)) w7 = .ok (.string (strB (bs.drop q2))) w7 := conv_bytes (HRd1.out.1.kept0 HR7.out.ap) HRd1.out.2.1 HRd1.out.2.2
 have z1 := HR7.out.c1
 have z28 := HD7.out.dv.text
 have f28 : w7.frozen? ⟨V, 28, none⟩ = false := frozen_of_row _ _ _ _ _ HD7.out.dv.blk
 obtain ⟨tx, Htx⟩ : ∃ t, Hid (t = strB (bs.drop q2)) := ⟨_, hid rfl⟩
 rw [← Htx.out] at hcv1
 go_upto_region 32 with (refine wpL_val rfl (.slice s1.p s1.n s1.c) (by rw [Hs1.out]; exact ex_postB ⟨sl.p, N, sl.c⟩ q2 _ _ rfl rfl rfl Hq2N.out) ?_)
 clear z1 z28 f28 hcv1
 obtain ⟨rf, Hrf⟩ : ∃ x : Rv, Hid (x = ⟨4, zr, zr, zr, [], (n1 : Int), (n2 : Int), tx⟩) := ⟨_, hid rfl⟩
 obtain ⟨sf, Hsf⟩ : ∃ s : Sl, Hid (s = ⟨none, 0, 0⟩) := ⟨_, hid rfl⟩
 have HDf : Hid (Dk (w7.setCell ⟨V, 28, none⟩ (.string tx)) V rf sf) := hid (by rw [Hrf.out, Hsf.out]; exact HD7.out.setRest (r' := ⟨4, zr, zr, zr, [], (n1 : Int), (n2 : Int), tx⟩) 3 (.string tx) rfl rfl rfl rfl rfl rfl)
 obtain ⟨bf, Hbf⟩ : ∃ b, Hid (b = b2) := ⟨_, hid rfl⟩
 have HRf : Hid (Dr w (w7.setCell ⟨V, 28, none⟩ (.string tx)) R sl bs q2 bf) := hid (by rw [Hbf.out]; exact HR7.out.kv HD7.out ((Apart.refl [V] w7).setCell (p := ⟨V, 28, none⟩) (.inl (by simp)) (.string tx)) HV.out)
 generalize w7.setCell ⟨V, 28, none⟩ (.string tx) = wf at *
 have HRl := hid (lt_of_heap HRf.out.blk)
 have Hc2 := hid HRf.out.c2
 have HCv : Hid (∀ W, Apart [] w W → Sem.run Tryz.prog (convert 29 9 (.slice sl.p N sl.c)) W = .ok (.string (strB bs)) W) := hid (fun W a => by
  have := conv_bytes (HG.out.rd.kept0 a) HG.out.len HG.out.ok
  rw [Hsn.out] at this
  exact this)
 go_upto_region 32 with fail
 cases hbf : bf
 case true =>
  rw [hbf] at Hc2
  have Hno : Hid (rdOk 4 bs = false) := hid (by
   exfalso
   have h1 := Hcc.out.1
   rw [← Hbf.out, hbf] at h1
   cases h1)
  refine wp_region_held_drew (S := fun W => Apart [] wf W) (by kernel_rfl) (Apart.refl [] wf).drew fun hHeld => ?_
  generalize wf.drew = wd at *
  refine zt 0 191 ?_
  refine zt 1 192 ?_
  refine zt 2 193 ?_
  refine zu 3 194 rfl (fun W hSW => by have z : W.cell? ⟨R, 2, none⟩ = some (.bool true) := (hSW.cell HRl.out (by simp)).trans Hc2.out; go_simp <;> rfl) ?_
  refine zt 4 195 ?_
  simp only [zA,zB,zC,zD,zF]
  refine tu 5 196 rfl ?_
  simp only [zA,zB,zC,zD,zF]
  refine tu 8 199 rfl ?_
  simp only [zA,zB,zC,zD,zF]
  refine tu 9 200 rfl ?_
  simp only [zA,zB,zC,zD,zF]
  refine wpAnyH_pass 6 (o := ⟨some 197, _, _, _, _, _⟩) (by kernel_rfl) rfl (by kernel_rfl) (by assumption) ?_
  simp only [zA,zB,zC,zD,zF]
  refine tu 7 198 rfl ?_
  simp only [zA,zB,zC,zD,zF]
  refine tu 10 201 rfl ?_
  refine zt 11 202 ?_
  simp only [zA,zB,zC,zD,zF]
  refine wpAnyH_done (by kernel_rfl) ?_ _
  have HAn := hid hHeld
  clear hHeld
  go_wp2_with fail
  go_ret2
  exact .inr ⟨Hno.out, rfl, HRf.out.ap.trans HAn.out⟩
 case false =>
  rw [hbf] at Hc2
  have Hfit : Hid (n1 = leV ((bs.drop 1).take 3) ∧ n2 = leV ((bs.drop 4).take 1) ∧ q2 = 5) := hid (by
   have h1 := Hcc.out.1
   rw [Hb2.out, Hb1'.out] at h1
   obtain ⟨e1, e2⟩ := or_false h1
   obtain ⟨-, e1⟩ := or_false e1
   have f1 := dfit e1
   have g1 : q1 = 4 := by rw [Hq1.out, f1.2.2.1]
   have f2 := dfit e2
   refine ⟨by rw [Hn1.out, f1.2.1], by rw [Hn2.out, f2.2.1, g1], by rw [Hq2.out, f2.2.2.1, g1]⟩)
  have Hv1 : Hid (readV 4 bs = .rgs (n1 : Int) (n2 : Int) tx) := hid (by
   have h1 : regR bs = (n1, n2, bs.drop q2) := by
    unfold regR
    rw [List.drop_drop, List.drop_drop, ← Hfit.out.1, ← Hfit.out.2.1, List.take_of_length_le (by rw [List.length_drop, ← HNN.out]; have := Hcc.out.2.2.1; have := Hfit.out.2.2; omega), Hfit.out.2.2]
   show Vl.rgs ((regR bs).1 : Int) ((regR bs).2.1 : Int) (strB (regR bs).2.2) = _
   rw [h1, Htx.out])
  have Hsz : Hid (tx.size ≤ 59 ∧ (n1 = 0 → tx = ⟨#[]⟩)) := hid (by
   rw [Htx.out]
   refine ⟨by rw [strB_size, List.length_drop, ← HNN.out]; exact Hcc.out.2.2.1, fun h0 => ?_⟩
   rw [List.drop_eq_nil_of_le (by rw [← HNN.out]; exact (Hcc.out.2.2.2 h0).2)]
   rfl)
  obtain ⟨v, Hv⟩ : ∃ v : Vl, Hid (v = .rgs (n1 : Int) (n2 : Int) tx) := ⟨_, hid rfl⟩
  have Hrv : Hid (readV 4 bs = v) := hid (by rw [Hv.out]; exact Hv1.out)
  have Hvr : Hid (rvO v [] = rf) := hid (by rw [Hv.out, Hrf.out]; rfl)
  have HRl2 : Hid (Rl v []) := hid (by rw [Hv.out]; rfl)
  have Hrt : Hid (rightV v = true) := hid (by
   rw [Hv.out]
   show rtR (n1 : Int) (n2 : Int) tx = true
   unfold rtR isA
   have h1 := Hcc.out.2.1
   by_cases h0 : n1 = 0
   ·have h2 := (Hcc.out.2.2.2 h0).1
    rw [Hsz.out.2 h0, h0, h2]
    simp [Lib.toList_data]
   ·simp
    refine ⟨by omega, .inl (by omega)⟩)
  have HIv : Hid (Iv v) := hid (by
   rw [Hv.out]
   refine ⟨⟨⟨⟨by omega, by have := Hn1b.out; omega⟩, ⟨by omega, Hsz.out.1⟩, fun h0 => ?_⟩, fun s a t e => ?_⟩, fun x hx => by simp [elsR] at hx⟩
   ·have h0' : n1 = 0 := by omega
    exact ⟨by rw [(Hcc.out.2.2.2 h0').1]; rfl, Hsz.out.2 h0'⟩
   ·cases e
    have := Hcc.out.2.1
    omega)
  have HFo : Hid (∀ W, Apart [] wf W → Calls Tryz.prog 44 #[.pointer (some ⟨V, 0, none⟩)] W fun x w' => ∃ s', x = .returned (.slice s'.p s'.n s'.c) ∧ Bf W w' s' (formV v)) := hid (fun W aW => dform_any (by rw [Hvr.out]; exact HDf.out.kept0 aW) HRl2.out HIv.out)
  have HU2 : Hid (U8 (formV v)) := hid (formV_u8 v)
  by_cases he : formV v = bs
  ·have Hne : Hid (((strB (formV v)).toList != (strB bs).toList) = false) := hid (by rw [he]; simp)
   have Hyes : Hid (rdOk 4 bs = true) := hid (by
    unfold rdOk
    rw [Hrv.out, Hrt.out, he]
    simp)
   refine wp_region_held_drew (S := fun W => Apart [] wf W) (by kernel_rfl) (Apart.refl [] wf).drew fun hHeld => ?_
   generalize wf.drew = wd at *
   refine zt 0 191 ?_
   refine zt 1 192 ?_
   refine zt 2 193 ?_
   refine zu 3 194 rfl (fun W hSW => by have z : W.cell? ⟨R, 2, none⟩ = some (.bool false) := (hSW.cell HRl.out (by simp)).trans Hc2.out; go_simp <;> rfl) ?_
   refine zt 4 195 ?_
   refine zt 5 196 ?_
   refine zt 8 199 ?_
   simp only [zA,zB,zC,zD,zF]
   refine tk 9 200 (.string (strB bs)) rfl ?_ ?_
   ·intro W hSW; have hcv := HCv.out W (HRf.out.ap.trans hSW); go_simp
   simp only [zA,zB,zC,zD,zF]
   refine zQ 6 fun KK hKK => ?_
   go_simp
   refine (HFo.out wd hHeld).mono ?_
   rintro _ wa ⟨sf2, rfl, bff⟩
   have hHx := hHeld.trans bff.nw.ap
   try dsimp only
   refine hKK.out _ _ hHx (fun hHeld => ?_)
   clear hKK KK
   try simp only [zA,zB,zC,zD,zF]
   refine zQ 7 fun KK hKK => ?_
   have hcv := conv_bytes (w := wa) (Rd.own bff.nw.own) bff.len.symm bff.nw.ok
   go_simp
   refine hKK.out _ _ hHeld (fun hHeld => ?_)
   clear hKK KK
   try simp only [zA,zB,zC,zD,zF]
   refine tk 10 201 (.bool false) rfl ?_ ?_
   ·intro W hSW; have hne := Hne.out; go_simp
   refine zt 11 202 ?_
   simp only [zA,zB,zC,zD,zF]
   refine wpAnyH_done (by kernel_rfl) ?_ _
   have HAn := hid hHeld
   clear hHeld bff
   have HDz := hid (HDf.out.kept0 HAn.out)
   go_wp2_with fail
   go_ret2
   exact .inl ⟨Hyes.out, ⟨V, sf, [], rfl, HV.out, by rw [Hrv.out, Hvr.out]; exact HDz.out, by rw [Hrv.out]; exact HRl2.out⟩, HRf.out.ap.trans HAn.out⟩
  ·have Hne : Hid (((strB (formV v)).toList != (strB bs).toList) = true) := hid (by
    have := strB_eq HU2.out HU.out
    rw [decide_eq_false he] at this
    rw [bne, this]; rfl)
   have Hno : Hid (rdOk 4 bs = false) := hid (by
    unfold rdOk
    rw [Hrv.out, decide_eq_false he]
    simp)
   refine wp_region_held_drew (S := fun W => Apart [] wf W) (by kernel_rfl) (Apart.refl [] wf).drew fun hHeld => ?_
   generalize wf.drew = wd at *
   refine zt 0 191 ?_
   refine zt 1 192 ?_
   refine zt 2 193 ?_
   refine zu 3 194 rfl (fun W hSW => by have z : W.cell? ⟨R, 2, none⟩ = some (.bool false) := (hSW.cell HRl.out (by simp)).trans Hc2.out; go_simp <;> rfl) ?_
   refine zt 4 195 ?_
   refine zt 5 196 ?_
   refine zt 8 199 ?_
   simp only [zA,zB,zC,zD,zF]
   refine tk 9 200 (.string (strB bs)) rfl ?_ ?_
   ·intro W hSW; have hcv := HCv.out W (HRf.out.ap.trans hSW); go_simp
   simp only [zA,zB,zC,zD,zF]
   refine zQ 6 fun KK hKK => ?_
   go_simp
   refine (HFo.out wd hHeld).mono ?_
   rintro _ wa ⟨sf2, rfl, bff⟩
   have hHx := hHeld.trans bff.nw.ap
   try dsimp only
   refine hKK.out _ _ hHx (fun hHeld => ?_)
   clear hKK KK
   try simp only [zA,zB,zC,zD,zF]
   refine zQ 7 fun KK hKK => ?_
   have hcv := conv_bytes (w := wa) (Rd.own bff.nw.own) bff.len.symm bff.nw.ok
   go_simp
   refine hKK.out _ _ hHeld (fun hHeld => ?_)
   clear hKK KK
   try simp only [zA,zB,zC,zD,zF]
   refine tk 10 201 (.bool true) rfl ?_ ?_
   ·intro W hSW; have hne := Hne.out; have hnp := bne_iff_ne.1 hne; go_simp
   refine zt 11 202 ?_
   simp only [zA,zB,zC,zD,zF]
   refine wpAnyH_done (by kernel_rfl) ?_ _
   have HAn := hid hHeld
   clear hHeld bff
   go_wp2_with fail
   go_ret2
   exact .inr ⟨Hno.out, rfl, HRf.out.ap.trans HAn.out⟩
end Go.Proofs.YtdbeeikjngnnnaaGreat.ty
