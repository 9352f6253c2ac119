import Derived.Test.YtdbeeikjngnnnaaT51
namespace Go.Proofs.Ytdbeeikjngnnnaa.ty
open Go.ChangeShapes Go.WideShapes Go.ChangeAt Go.RowKit
set_option linter.unusedVariables false
set_option linter.unusedSimpArgs false
theorem f1 : formV (new0 1) = [1, 0] := by decide
theorem f2 : formV (new0 2) = [2, 0, 0] := by decide
theorem f3 : formV (new0 3) = [3, 0, 0] := by decide
theorem f4 : formV (new0 4) = [4, 0, 0, 0, 0] := by
  show 4 :: (leB 0 3 ++ (0 % 256) :: bsk ⟨#[]⟩) = _
  rw [bsk_nil]
  decide
theorem form_new {k : Nat} (h1 : 1 ≤ k) (h4 : k ≤ 4) : (formV (new0 k)).length ≤ 64 ∧ valV k (formV (new0 k)) = new0 k := by
  obtain rfl | rfl | rfl | rfl : k = 1 ∨ k = 2 ∨ k = 3 ∨ k = 4 := by omega
  · rw [f1]
    refine ⟨by decide, ?_⟩
    unfold valV
    split <;> rfl
  · rw [f2]
    refine ⟨by decide, ?_⟩
    unfold valV
    split <;> rfl
  · rw [f3]
    refine ⟨by decide, ?_⟩
    unfold valV
    split <;> rfl
  · rw [f4]
    refine ⟨by decide, ?_⟩
    unfold valV
    split <;> rfl
set_option maxHeartbeats 4000000 in
set_option maxRecDepth 100000 in
theorem back_in {w : World} {sl : Sl} {bs : List Nat} (k : Nat) (h1 : 1 ≤ k) (h4 : k ≤ 4) (h : Gv w sl bs) : Calls Try.prog 3 #[.int .i64 (k : Int), .slice sl.p sl.n sl.c] w fun r w' => r = .returned (.bool true) ∧ Apart [] w w' := by
  have hk1 : ¬ ((k : Nat) : Int) < 1 := by omega
  have hk4 : ¬ ((k : Nat) : Int) > 4 := by omega
  have H14 := hid (And.intro h1 h4)
  have HG := hid h
  have HAb := hid (able_ok w)
  clear h h1 h4
  go_enter Try.func3, Try.ntmps3
  go_upto_region 3 with (go_at_call 7; refine HAb.out.mono ?_; rintro _ w1 ⟨rfl, a1⟩; have HA1 := hid a1; clear a1 HAb)
  obtain ⟨s2, w2, hrun, n2, l2, a2⟩ := copyB (HG.out.kept0 HA1.out)
  have HR := hid hrun
  have HA2 := hid (HA1.out.trans a2)
  have Hln : Hid (bs.length = s2.n) := hid (by rw [l2]; exact HG.out.len)
  have HN2 := hid n2
  clear hrun n2 l2 a2
  obtain ⟨nv, Hnv⟩ : ∃ v, Hid (v = new0 k) := ⟨_, hid rfl⟩
  have Hokn : Hid (Ok nv ∧ OkF nv ∧ (formV nv).length ≤ 64 ∧ valV k (formV nv) = nv) := hid (by rw [Hnv.out]; exact ⟨new0_ok k, new0_okF k, form_new H14.out.1 H14.out.2⟩)
  have HCn := hid (fun wx => new_ok wx k H14.out.1 H14.out.2)
  have HHn := hid (fun wx => Ho.new wx k H14.out.1 H14.out.2)
  rw [← Hnv.out] at HHn
  have HCb := hid (fun wx C (hh : Ho wx C nv) => Bytes_v hh Hokn.out.2.1 Hokn.out.2.2.1)
  have HCv := hid (fun wx (s : Sl) (hb : Gv wx s (formV nv)) => value_ok k H14.out.1 H14.out.2 hb)
  rw [Hokn.out.2.2.2] at HCv
  have HCs := hid (fun wx C D (hh : Ho wx C nv) (hd : Ho wx D nv) => same_ok hh hd Hokn.out.1 Hokn.out.2.1 Hokn.out.2.2.1)
  have H8n := hid (formV_u8 nv)
  by_cases h64 : bs.length ≤ 64
  · have HD : Hid (Rdy k w2 s2 bs) := hid ⟨HN2.out.rd, Hln.out, HN2.out.ok, HN2.out.cap, HG.out.u8, h64⟩
    cases hr : rdOk k bs
    · have HC := hid (Read_bad k H14.out.1 H14.out.2 HD.out hr)
      clear hr h64
      go_upto_region 6 with (first
        | (at_builtin; refine wpList_append3 rfl _ _ 22 rfl _ _ rfl rfl (.slice s2.p s2.n s2.c) w2 HR.out ?_)
        | (go_at_call 8; refine HC.out.mono ?_; rintro _ w3 ⟨rfl, a3⟩; have HA3 := hid a3; clear a3 HC))
      go_upto_region 9 with (go_at_call 9; refine (HCn.out _).mono ?_; rintro _ _ ⟨rfl, rfl⟩)
      have HV4 := hid (HHn.out w3)
      have HA4 : Hid (Apart [] w3 (w3.alloc (.cells #[zb k] 70))) := hid ((Apart.refl [] w3).alloc _)
      obtain ⟨N4, HN4⟩ : ∃ n, Hid (n = w3.heap.size) := ⟨_, hid rfl⟩
      rw [← HN4.out] at HV4 ⊢
      generalize w3.alloc (.cells #[zb k] 70) = w4 at *
      go_upto_region 10 with (go_at_call 10; refine (HCb.out _ _ HV4.out).mono ?_; rintro _ w5 ⟨s5, rfl, b5⟩; have HB5 := hid b5; clear b5)
      have HG5 : Hid (Gv w5 s5 (formV nv)) := hid ⟨HB5.out.nw.rd, HB5.out.len.symm, HB5.out.nw.ok, H8n.out, by have := Hokn.out.2.2.1; omega⟩
      go_wp2_with (first
        | (go_at_call 12; refine (HCv.out _ _ HG5.out).mono ?_; rintro _ w6 ⟨V6, rfl, g6, o6, a6⟩; have HO6 := hid o6; have HA6 := hid a6; clear g6 o6 a6)
        | (go_at_call 11; refine (HCs.out _ _ _ HO6.out (HV4.out.kept0 (HB5.out.nw.ap.trans HA6.out))).mono ?_; rintro _ w7 ⟨rfl, a7⟩; have HA7 := hid a7; clear a7))
      go_ret
      exact ⟨rfl, ((((HA2.out.trans HA3.out).trans HA4.out).trans HB5.out.nw.ap).trans HA6.out).trans HA7.out⟩
    · have HC := hid (Read_ok k H14.out.1 H14.out.2 HD.out hr)
      have Hrv : Hid (OkF (readV k bs) ∧ formV (readV k bs) = bs ∧ bs.length ≤ 64) := hid ⟨readV_okF H14.out.1 H14.out.2 HG.out.u8 h64, by unfold rdOk at hr; simp at hr; exact hr.2, h64⟩
      obtain ⟨rv', Hrv'⟩ : ∃ v, Hid (v = readV k bs) := ⟨_, hid rfl⟩
      rw [← Hrv'.out] at HC Hrv
      have HCd := hid (fun wx C (hh : Ho wx C rv') => Bytes_v hh Hrv.out.1 (by rw [Hrv.out.2.1]; exact Hrv.out.2.2))
      rw [Hrv.out.2.1] at HCd
      clear hr h64
      go_upto_region 6 with (first
        | (at_builtin; refine wpList_append3 rfl _ _ 22 rfl _ _ rfl rfl (.slice s2.p s2.n s2.c) w2 HR.out ?_)
        | (go_at_call 8; refine HC.out.mono ?_; rintro _ w3 ⟨V3, rfl, g3, o3, a3⟩; have HA3 := hid a3; have HO3 := hid o3; clear a3 o3 g3 HC))
      go_upto_region 9 with (go_at_call 9; refine (HCn.out _).mono ?_; rintro _ _ ⟨rfl, rfl⟩)
      have HV4 := hid (HHn.out w3)
      have HA4 : Hid (Apart [] w3 (w3.alloc (.cells #[zb k] 70))) := hid ((Apart.refl [] w3).alloc _)
      obtain ⟨N4, HN4⟩ : ∃ n, Hid (n = w3.heap.size) := ⟨_, hid rfl⟩
      rw [← HN4.out] at HV4 ⊢
      generalize w3.alloc (.cells #[zb k] 70) = w4 at *
      go_upto_region 10 with (go_at_call 10; refine (HCb.out _ _ HV4.out).mono ?_; rintro _ w5 ⟨s5, rfl, b5⟩; have HB5 := hid b5; clear b5)
      have HG5 : Hid (Gv w5 s5 (formV nv)) := hid ⟨HB5.out.nw.rd, HB5.out.len.symm, HB5.out.nw.ok, H8n.out, by have := Hokn.out.2.2.1; omega⟩
      go_wp2_with (first
        | (go_at_call 12; refine (HCv.out _ _ HG5.out).mono ?_; rintro _ w6 ⟨V6, rfl, g6, o6, a6⟩; have HO6 := hid o6; have HA6 := hid a6; clear g6 o6 a6)
        | (go_at_call 11; refine (HCs.out _ _ _ HO6.out (HV4.out.kept0 (HB5.out.nw.ap.trans HA6.out))).mono ?_; rintro _ w7 ⟨rfl, a7⟩; have HA7 := hid a7; clear a7)
        | (go_at_call 10; refine (HCd.out _ _ (HO3.out.kept0 (((HA4.out.trans HB5.out.nw.ap).trans HA6.out).trans HA7.out))).mono ?_; rintro _ w8 ⟨s8, rfl, b8⟩; have HB8 := hid b8; clear b8)
        | (go_at_call 13; refine (alike_yes HB8.out.nw.rd HB8.out.len.symm HB8.out.nw.ok (HG.out.rd.kept0 ((((((HA2.out.trans HA3.out).trans HA4.out).trans HB5.out.nw.ap).trans HA6.out).trans HA7.out).trans HB8.out.nw.ap)) HG.out.len HG.out.ok).mono ?_; rintro _ _ ⟨rfl, rfl⟩))
      go_ret
      exact ⟨rfl, (((((HA2.out.trans HA3.out).trans HA4.out).trans HB5.out.nw.ap).trans HA6.out).trans HA7.out).trans HB8.out.nw.ap⟩
  · have hgt : ((sl.n : Nat) : Int) > 64 := by have := HG.out.len; omega
    have HC := hid (Read_long (w := w2) k H14.out.1 H14.out.2 s2.p s2.n s2.c (by have := Hln.out; omega))
    clear h64
    go_upto_region 6 with (first
      | (at_builtin; refine wpList_append3 rfl _ _ 22 rfl _ _ rfl rfl (.slice s2.p s2.n s2.c) w2 HR.out ?_)
      | (go_at_call 8; refine HC.out.mono ?_; rintro _ w3 ⟨rfl, e3⟩; have HA3 : Hid (Apart [] w2 w3) := hid (by rw [e3]; exact Apart.refl _ _); clear e3 HC))
    go_upto_region 9 with (go_at_call 9; refine (HCn.out _).mono ?_; rintro _ _ ⟨rfl, rfl⟩)
    have HV4 := hid (HHn.out w3)
    have HA4 : Hid (Apart [] w3 (w3.alloc (.cells #[zb k] 70))) := hid ((Apart.refl [] w3).alloc _)
    obtain ⟨N4, HN4⟩ : ∃ n, Hid (n = w3.heap.size) := ⟨_, hid rfl⟩
    rw [← HN4.out] at HV4 ⊢
    generalize w3.alloc (.cells #[zb k] 70) = w4 at *
    go_upto_region 10 with (go_at_call 10; refine (HCb.out _ _ HV4.out).mono ?_; rintro _ w5 ⟨s5, rfl, b5⟩; have HB5 := hid b5; clear b5)
    have HG5 : Hid (Gv w5 s5 (formV nv)) := hid ⟨HB5.out.nw.rd, HB5.out.len.symm, HB5.out.nw.ok, H8n.out, by have := Hokn.out.2.2.1; omega⟩
    go_wp2_with (first
      | (go_at_call 12; refine (HCv.out _ _ HG5.out).mono ?_; rintro _ w6 ⟨V6, rfl, g6, o6, a6⟩; have HO6 := hid o6; have HA6 := hid a6; clear g6 o6 a6)
      | (go_at_call 11; refine (HCs.out _ _ _ HO6.out (HV4.out.kept0 (HB5.out.nw.ap.trans HA6.out))).mono ?_; rintro _ w7 ⟨rfl, a7⟩; have HA7 := hid a7; clear a7))
    go_ret
    exact ⟨rfl, ((((HA2.out.trans HA3.out).trans HA4.out).trans HB5.out.nw.ap).trans HA6.out).trans HA7.out⟩
end Go.Proofs.Ytdbeeikjngnnnaa.ty
