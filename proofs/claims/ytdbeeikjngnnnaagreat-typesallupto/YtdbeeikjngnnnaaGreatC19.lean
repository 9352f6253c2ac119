import Derived.Test.YtdbeeikjngnnnaaGreatC18
namespace Go.Proofs.YtdbeeikjngnnnaaGreat.ty
open Go.ChangeShapes Go.WideShapes Go.ChangeAt Go.RowKit
set_option linter.unusedVariables false
set_option linter.unusedSimpArgs false
set_option maxRecDepth 100000
set_option maxHeartbeats 8000000
theorem Read1_yes {w : World} {sl : Sl} {bs : List Nat} (h : Rdy 1 w sl bs) (hr : rightV (readV 1 bs) = true) (he : formV (readV 1 bs) = bs) : Calls Tryz.prog 45 #[.int .i64 1, .slice sl.p sl.n sl.c] w fun r w' => ∃ V, r = .returned (.tuple #[.pointer (some ⟨V, 0, none⟩), .int .i64 0]) ∧ w.heap.size ≤ V ∧ Ho w' V (readV 1 bs) ∧ Apart [] w w' := by
 have HB : Hid (Calls Tryz.prog 33 #[.int .i64 1] w fun r w' => r = .returned (.iface 101 (.agg (rv (zr ++ zr)).toArray)) ∧ w' = w) := hid (blank_ok w 1 (by omega) (by omega))
 have hz : ∀ wx, (binOp .eql 68 (.iface 101 (.agg (rv (zr ++ zr)).toArray)) .nilIface).run Tryz.prog wx = .ok (.bool false) wx := fun wx => zb_ne 1 wx
 have hg : ∀ x y wx, (eqGuard .eql 68 x y (.iface 101 (.agg (rv (zr ++ zr)).toArray)) .nilIface).run Tryz.prog wx = .ok () wx := fun x y wx => zb_gd 1 x y wx
 have hn : ¬ ((sl.n : Nat) : Int) > 64 := by have h1 := h.len; have h2 := h.le; omega
 have HC := hid h.read1
 have HH := hid h
 have hm1 := mr_read1
 have hm2 := mr_right1
 have hm3 := mr_form1
 clear h
 obtain ⟨bk, Hbk⟩ : ∃ b, Hid (b = (rv (zr ++ zr)).toArray) := ⟨_, hid rfl⟩
 rw [← Hbk.out] at HB hz hg HC
 obtain ⟨fv, Hfv⟩ : ∃ f, Hid (f = formV (readV 1 bs)) := ⟨_, hid rfl⟩
 obtain ⟨vv, Hvv⟩ : ∃ v, Hid (v = readV 1 bs) := ⟨_, hid rfl⟩
 have Hf8 : Hid (U8 fv) := hid (by rw [Hfv.out]; exact formV_u8 _)
 rw [← Hfv.out, hr, ← Hvv.out] at HC
 rw [← Hfv.out] at he
 have He := hid he
 clear he
 rw [← Hvv.out]
 clear hr
 go_enter Tryz.func45, Tryz.ntmps45
 go_upto_region 7 with (first
  | (go_at_call 33; refine HB.out.mono ?_; rintro _ _ ⟨rfl, rfl⟩)
  | (go_at_call 103; refine HC.out.mono ?_; rintro _ w2 ⟨cs, rfl, a2, t2, f2, o2⟩; have HA2 := hid a2; have HRt := hid (t2 w2 (Apart.refl _ _)); have HF := hid f2; have HOo := hid o2; clear a2 t2 f2 o2 HC))
 go_wp2_with (first
  | (go_at_call 104; refine HRt.out.mono ?_; rintro _ w3 ⟨rfl, a3⟩; have HA3 := hid a3; clear a3)
  | (go_at_call 102; refine (HF.out _ HA3.out).mono ?_; rintro _ w4 ⟨s4, rfl, b4⟩; have HB4 := hid b4; clear b4)
  | (go_at_call 61; refine (equal_ok (s := s4) HB4.out.nw.rd HB4.out.len.symm HB4.out.nw.ok ((HH.out.rd.kept0 (HA2.out.trans HA3.out)).kept0 HB4.out.nw.ap) HH.out.len HH.out.ok).mono ?_; rintro _ _ ⟨rfl, rfl⟩; rw [strB_eq Hf8.out HH.out.u8, decide_eq_true He.out]))
 go_ret2
 have HA4 := ((HA2.out.trans HA3.out).trans HB4.out.nw.ap)
 refine ⟨_, rfl, HA4.size, ?_, HA4.alloc _⟩
 exact HOo.out _ _ ((HA3.out.trans HB4.out.nw.ap).alloc _) (heap_alloc_new _ _)
theorem Read1_bad {w : World} {sl : Sl} {bs : List Nat} (h : Rdy 1 w sl bs) (hr : rightV (readV 1 bs) = false) : Calls Tryz.prog 45 #[.int .i64 1, .slice sl.p sl.n sl.c] w fun r w' => r = .returned (.tuple #[.pointer none, .int .i64 190]) ∧ Apart [] w w' := by
 have HB : Hid (Calls Tryz.prog 33 #[.int .i64 1] w fun r w' => r = .returned (.iface 101 (.agg (rv (zr ++ zr)).toArray)) ∧ w' = w) := hid (blank_ok w 1 (by omega) (by omega))
 have hz : ∀ wx, (binOp .eql 68 (.iface 101 (.agg (rv (zr ++ zr)).toArray)) .nilIface).run Tryz.prog wx = .ok (.bool false) wx := fun wx => zb_ne 1 wx
 have hg : ∀ x y wx, (eqGuard .eql 68 x y (.iface 101 (.agg (rv (zr ++ zr)).toArray)) .nilIface).run Tryz.prog wx = .ok () wx := fun x y wx => zb_gd 1 x y wx
 have hn : ¬ ((sl.n : Nat) : Int) > 64 := by have h1 := h.len; have h2 := h.le; omega
 have HC := hid h.read1
 have HH := hid h
 have hm1 := mr_read1
 have hm2 := mr_right1
 have hm3 := mr_form1
 clear h
 obtain ⟨bk, Hbk⟩ : ∃ b, Hid (b = (rv (zr ++ zr)).toArray) := ⟨_, hid rfl⟩
 rw [← Hbk.out] at HB hz hg HC
 obtain ⟨fv, Hfv⟩ : ∃ f, Hid (f = formV (readV 1 bs)) := ⟨_, hid rfl⟩
 obtain ⟨vv, Hvv⟩ : ∃ v, Hid (v = readV 1 bs) := ⟨_, hid rfl⟩
 have Hf8 : Hid (U8 fv) := hid (by rw [Hfv.out]; exact formV_u8 _)
 rw [← Hfv.out, hr, ← Hvv.out] at HC
 clear hr
 go_enter Tryz.func45, Tryz.ntmps45
 go_upto_region 7 with (first
  | (go_at_call 33; refine HB.out.mono ?_; rintro _ _ ⟨rfl, rfl⟩)
  | (go_at_call 103; refine HC.out.mono ?_; rintro _ w2 ⟨cs, rfl, a2, t2, f2, o2⟩; have HA2 := hid a2; have HRt := hid (t2 w2 (Apart.refl _ _)); have HF := hid f2; have HOo := hid o2; clear a2 t2 f2 o2 HC))
 go_wp2_with (first
  | (go_at_call 104; refine HRt.out.mono ?_; rintro _ w3 ⟨rfl, a3⟩; have HA3 := hid a3; clear a3))
 go_ret2
 exact ⟨rfl, HA2.out.trans HA3.out⟩
theorem Read1_ne {w : World} {sl : Sl} {bs : List Nat} (h : Rdy 1 w sl bs) (hr : rightV (readV 1 bs) = true) (he : formV (readV 1 bs) ≠ bs) : Calls Tryz.prog 45 #[.int .i64 1, .slice sl.p sl.n sl.c] w fun r w' => r = .returned (.tuple #[.pointer none, .int .i64 190]) ∧ Apart [] w w' := by
 have HB : Hid (Calls Tryz.prog 33 #[.int .i64 1] w fun r w' => r = .returned (.iface 101 (.agg (rv (zr ++ zr)).toArray)) ∧ w' = w) := hid (blank_ok w 1 (by omega) (by omega))
 have hz : ∀ wx, (binOp .eql 68 (.iface 101 (.agg (rv (zr ++ zr)).toArray)) .nilIface).run Tryz.prog wx = .ok (.bool false) wx := fun wx => zb_ne 1 wx
 have hg : ∀ x y wx, (eqGuard .eql 68 x y (.iface 101 (.agg (rv (zr ++ zr)).toArray)) .nilIface).run Tryz.prog wx = .ok () wx := fun x y wx => zb_gd 1 x y wx
 have hn : ¬ ((sl.n : Nat) : Int) > 64 := by have h1 := h.len; have h2 := h.le; omega
 have HC := hid h.read1
 have HH := hid h
 have hm1 := mr_read1
 have hm2 := mr_right1
 have hm3 := mr_form1
 clear h
 obtain ⟨bk, Hbk⟩ : ∃ b, Hid (b = (rv (zr ++ zr)).toArray) := ⟨_, hid rfl⟩
 rw [← Hbk.out] at HB hz hg HC
 obtain ⟨fv, Hfv⟩ : ∃ f, Hid (f = formV (readV 1 bs)) := ⟨_, hid rfl⟩
 obtain ⟨vv, Hvv⟩ : ∃ v, Hid (v = readV 1 bs) := ⟨_, hid rfl⟩
 have Hf8 : Hid (U8 fv) := hid (by rw [Hfv.out]; exact formV_u8 _)
 rw [← Hfv.out, hr, ← Hvv.out] at HC
 rw [← Hfv.out] at he
 have He := hid he
 clear he
 clear hr
 go_enter Tryz.func45, Tryz.ntmps45
 go_upto_region 7 with (first
  | (go_at_call 33; refine HB.out.mono ?_; rintro _ _ ⟨rfl, rfl⟩)
  | (go_at_call 103; refine HC.out.mono ?_; rintro _ w2 ⟨cs, rfl, a2, t2, f2, o2⟩; have HA2 := hid a2; have HRt := hid (t2 w2 (Apart.refl _ _)); have HF := hid f2; have HOo := hid o2; clear a2 t2 f2 o2 HC))
 go_wp2_with (first
  | (go_at_call 104; refine HRt.out.mono ?_; rintro _ w3 ⟨rfl, a3⟩; have HA3 := hid a3; clear a3)
  | (go_at_call 102; refine (HF.out _ HA3.out).mono ?_; rintro _ w4 ⟨s4, rfl, b4⟩; have HB4 := hid b4; clear b4)
  | (go_at_call 61; refine (equal_ok (s := s4) HB4.out.nw.rd HB4.out.len.symm HB4.out.nw.ok ((HH.out.rd.kept0 (HA2.out.trans HA3.out)).kept0 HB4.out.nw.ap) HH.out.len HH.out.ok).mono ?_; rintro _ _ ⟨rfl, rfl⟩; rw [strB_eq Hf8.out HH.out.u8, decide_eq_false He.out]))
 go_ret2
 exact ⟨rfl, (HA2.out.trans HA3.out).trans HB4.out.nw.ap⟩
theorem Read2_yes {w : World} {sl : Sl} {bs : List Nat} (h : Rdy 2 w sl bs) (hr : rightV (readV 2 bs) = true) (he : formV (readV 2 bs) = bs) : Calls Tryz.prog 45 #[.int .i64 2, .slice sl.p sl.n sl.c] w fun r w' => ∃ V, r = .returned (.tuple #[.pointer (some ⟨V, 0, none⟩), .int .i64 0]) ∧ w.heap.size ≤ V ∧ Ho w' V (readV 2 bs) ∧ Apart [] w w' := by
 have HB : Hid (Calls Tryz.prog 33 #[.int .i64 2] w fun r w' => r = .returned (.iface 104 (.agg (sv zr ⟨none, 0, 0⟩))) ∧ w' = w) := hid (blank_ok w 2 (by omega) (by omega))
 have hz : ∀ wx, (binOp .eql 68 (.iface 104 (.agg (sv zr ⟨none, 0, 0⟩))) .nilIface).run Tryz.prog wx = .ok (.bool false) wx := fun wx => zb_ne 2 wx
 have hg : ∀ x y wx, (eqGuard .eql 68 x y (.iface 104 (.agg (sv zr ⟨none, 0, 0⟩))) .nilIface).run Tryz.prog wx = .ok () wx := fun x y wx => zb_gd 2 x y wx
 have hn : ¬ ((sl.n : Nat) : Int) > 64 := by have h1 := h.len; have h2 := h.le; omega
 have HC := hid h.read2
 have HH := hid h
 have hm1 := mr_read2
 have hm2 := mr_right2
 have hm3 := mr_form2
 clear h
 obtain ⟨bk, Hbk⟩ : ∃ b, Hid (b = (sv zr ⟨none, 0, 0⟩)) := ⟨_, hid rfl⟩
 rw [← Hbk.out] at HB hz hg HC
 obtain ⟨fv, Hfv⟩ : ∃ f, Hid (f = formV (readV 2 bs)) := ⟨_, hid rfl⟩
 obtain ⟨vv, Hvv⟩ : ∃ v, Hid (v = readV 2 bs) := ⟨_, hid rfl⟩
 have Hf8 : Hid (U8 fv) := hid (by rw [Hfv.out]; exact formV_u8 _)
 rw [← Hfv.out, hr, ← Hvv.out] at HC
 rw [← Hfv.out] at he
 have He := hid he
 clear he
 rw [← Hvv.out]
 clear hr
 go_enter Tryz.func45, Tryz.ntmps45
 go_upto_region 7 with (first
  | (go_at_call 33; refine HB.out.mono ?_; rintro _ _ ⟨rfl, rfl⟩)
  | (go_at_call 115; refine HC.out.mono ?_; rintro _ w2 ⟨cs, rfl, a2, t2, f2, o2⟩; have HA2 := hid a2; have HRt := hid (t2 w2 (Apart.refl _ _)); have HF := hid f2; have HOo := hid o2; clear a2 t2 f2 o2 HC))
 go_wp2_with (first
  | (go_at_call 116; refine HRt.out.mono ?_; rintro _ w3 ⟨rfl, a3⟩; have HA3 := hid a3; clear a3)
  | (go_at_call 113; refine (HF.out _ HA3.out).mono ?_; rintro _ w4 ⟨s4, rfl, b4⟩; have HB4 := hid b4; clear b4)
  | (go_at_call 61; refine (equal_ok (s := s4) HB4.out.nw.rd HB4.out.len.symm HB4.out.nw.ok ((HH.out.rd.kept0 (HA2.out.trans HA3.out)).kept0 HB4.out.nw.ap) HH.out.len HH.out.ok).mono ?_; rintro _ _ ⟨rfl, rfl⟩; rw [strB_eq Hf8.out HH.out.u8, decide_eq_true He.out]))
 go_ret2
 have HA4 := ((HA2.out.trans HA3.out).trans HB4.out.nw.ap)
 refine ⟨_, rfl, HA4.size, ?_, HA4.alloc _⟩
 exact HOo.out _ _ ((HA3.out.trans HB4.out.nw.ap).alloc _) (heap_alloc_new _ _)
theorem Read2_bad {w : World} {sl : Sl} {bs : List Nat} (h : Rdy 2 w sl bs) (hr : rightV (readV 2 bs) = false) : Calls Tryz.prog 45 #[.int .i64 2, .slice sl.p sl.n sl.c] w fun r w' => r = .returned (.tuple #[.pointer none, .int .i64 190]) ∧ Apart [] w w' := by
 have HB : Hid (Calls Tryz.prog 33 #[.int .i64 2] w fun r w' => r = .returned (.iface 104 (.agg (sv zr ⟨none, 0, 0⟩))) ∧ w' = w) := hid (blank_ok w 2 (by omega) (by omega))
 have hz : ∀ wx, (binOp .eql 68 (.iface 104 (.agg (sv zr ⟨none, 0, 0⟩))) .nilIface).run Tryz.prog wx = .ok (.bool false) wx := fun wx => zb_ne 2 wx
 have hg : ∀ x y wx, (eqGuard .eql 68 x y (.iface 104 (.agg (sv zr ⟨none, 0, 0⟩))) .nilIface).run Tryz.prog wx = .ok () wx := fun x y wx => zb_gd 2 x y wx
 have hn : ¬ ((sl.n : Nat) : Int) > 64 := by have h1 := h.len; have h2 := h.le; omega
 have HC := hid h.read2
 have HH := hid h
 have hm1 := mr_read2
 have hm2 := mr_right2
 have hm3 := mr_form2
 clear h
 obtain ⟨bk, Hbk⟩ : ∃ b, Hid (b = (sv zr ⟨none, 0, 0⟩)) := ⟨_, hid rfl⟩
 rw [← Hbk.out] at HB hz hg HC
 obtain ⟨fv, Hfv⟩ : ∃ f, Hid (f = formV (readV 2 bs)) := ⟨_, hid rfl⟩
 obtain ⟨vv, Hvv⟩ : ∃ v, Hid (v = readV 2 bs) := ⟨_, hid rfl⟩
 have Hf8 : Hid (U8 fv) := hid (by rw [Hfv.out]; exact formV_u8 _)
 rw [← Hfv.out, hr, ← Hvv.out] at HC
 clear hr
 go_enter Tryz.func45, Tryz.ntmps45
 go_upto_region 7 with (first
  | (go_at_call 33; refine HB.out.mono ?_; rintro _ _ ⟨rfl, rfl⟩)
  | (go_at_call 115; refine HC.out.mono ?_; rintro _ w2 ⟨cs, rfl, a2, t2, f2, o2⟩; have HA2 := hid a2; have HRt := hid (t2 w2 (Apart.refl _ _)); have HF := hid f2; have HOo := hid o2; clear a2 t2 f2 o2 HC))
 go_wp2_with (first
  | (go_at_call 116; refine HRt.out.mono ?_; rintro _ w3 ⟨rfl, a3⟩; have HA3 := hid a3; clear a3))
 go_ret2
 exact ⟨rfl, HA2.out.trans HA3.out⟩
theorem Read2_ne {w : World} {sl : Sl} {bs : List Nat} (h : Rdy 2 w sl bs) (hr : rightV (readV 2 bs) = true) (he : formV (readV 2 bs) ≠ bs) : Calls Tryz.prog 45 #[.int .i64 2, .slice sl.p sl.n sl.c] w fun r w' => r = .returned (.tuple #[.pointer none, .int .i64 190]) ∧ Apart [] w w' := by
 have HB : Hid (Calls Tryz.prog 33 #[.int .i64 2] w fun r w' => r = .returned (.iface 104 (.agg (sv zr ⟨none, 0, 0⟩))) ∧ w' = w) := hid (blank_ok w 2 (by omega) (by omega))
 have hz : ∀ wx, (binOp .eql 68 (.iface 104 (.agg (sv zr ⟨none, 0, 0⟩))) .nilIface).run Tryz.prog wx = .ok (.bool false) wx := fun wx => zb_ne 2 wx
 have hg : ∀ x y wx, (eqGuard .eql 68 x y (.iface 104 (.agg (sv zr ⟨none, 0, 0⟩))) .nilIface).run Tryz.prog wx = .ok () wx := fun x y wx => zb_gd 2 x y wx
 have hn : ¬ ((sl.n : Nat) : Int) > 64 := by have h1 := h.len; have h2 := h.le; omega
 have HC := hid h.read2
 have HH := hid h
 have hm1 := mr_read2
 have hm2 := mr_right2
 have hm3 := mr_form2
 clear h
 obtain ⟨bk, Hbk⟩ : ∃ b, Hid (b = (sv zr ⟨none, 0, 0⟩)) := ⟨_, hid rfl⟩
 rw [← Hbk.out] at HB hz hg HC
 obtain ⟨fv, Hfv⟩ : ∃ f, Hid (f = formV (readV 2 bs)) := ⟨_, hid rfl⟩
 obtain ⟨vv, Hvv⟩ : ∃ v, Hid (v = readV 2 bs) := ⟨_, hid rfl⟩
 have Hf8 : Hid (U8 fv) := hid (by rw [Hfv.out]; exact formV_u8 _)
 rw [← Hfv.out, hr, ← Hvv.out] at HC
 rw [← Hfv.out] at he
 have He := hid he
 clear he
 clear hr
 go_enter Tryz.func45, Tryz.ntmps45
 go_upto_region 7 with (first
  | (go_at_call 33; refine HB.out.mono ?_; rintro _ _ ⟨rfl, rfl⟩)
  | (go_at_call 115; refine HC.out.mono ?_; rintro _ w2 ⟨cs, rfl, a2, t2, f2, o2⟩; have HA2 := hid a2; have HRt := hid (t2 w2 (Apart.refl _ _)); have HF := hid f2; have HOo := hid o2; clear a2 t2 f2 o2 HC))
 go_wp2_with (first
  | (go_at_call 116; refine HRt.out.mono ?_; rintro _ w3 ⟨rfl, a3⟩; have HA3 := hid a3; clear a3)
  | (go_at_call 113; refine (HF.out _ HA3.out).mono ?_; rintro _ w4 ⟨s4, rfl, b4⟩; have HB4 := hid b4; clear b4)
  | (go_at_call 61; refine (equal_ok (s := s4) HB4.out.nw.rd HB4.out.len.symm HB4.out.nw.ok ((HH.out.rd.kept0 (HA2.out.trans HA3.out)).kept0 HB4.out.nw.ap) HH.out.len HH.out.ok).mono ?_; rintro _ _ ⟨rfl, rfl⟩; rw [strB_eq Hf8.out HH.out.u8, decide_eq_false He.out]))
 go_ret2
 exact ⟨rfl, (HA2.out.trans HA3.out).trans HB4.out.nw.ap⟩
theorem Read3_yes {w : World} {sl : Sl} {bs : List Nat} (h : Rdy 3 w sl bs) (hr : rightV (readV 3 bs) = true) (he : formV (readV 3 bs) = bs) : Calls Tryz.prog 45 #[.int .i64 3, .slice sl.p sl.n sl.c] w fun r w' => ∃ V, r = .returned (.tuple #[.pointer (some ⟨V, 0, none⟩), .int .i64 0]) ∧ w.heap.size ≤ V ∧ Ho w' V (readV 3 bs) ∧ Apart [] w w' := by
 have HB : Hid (Calls Tryz.prog 33 #[.int .i64 3] w fun r w' => r = .returned (.iface 106 (.agg (rv (zr ++ zr)).toArray)) ∧ w' = w) := hid (blank_ok w 3 (by omega) (by omega))
 have hz : ∀ wx, (binOp .eql 68 (.iface 106 (.agg (rv (zr ++ zr)).toArray)) .nilIface).run Tryz.prog wx = .ok (.bool false) wx := fun wx => zb_ne 3 wx
 have hg : ∀ x y wx, (eqGuard .eql 68 x y (.iface 106 (.agg (rv (zr ++ zr)).toArray)) .nilIface).run Tryz.prog wx = .ok () wx := fun x y wx => zb_gd 3 x y wx
 have hn : ¬ ((sl.n : Nat) : Int) > 64 := by have h1 := h.len; have h2 := h.le; omega
 have HC := hid h.read3
 have HH := hid h
 have hm1 := mr_read3
 have hm2 := mr_right3
 have hm3 := mr_form3
 clear h
 obtain ⟨bk, Hbk⟩ : ∃ b, Hid (b = (rv (zr ++ zr)).toArray) := ⟨_, hid rfl⟩
 rw [← Hbk.out] at HB hz hg HC
 obtain ⟨fv, Hfv⟩ : ∃ f, Hid (f = formV (readV 3 bs)) := ⟨_, hid rfl⟩
 obtain ⟨vv, Hvv⟩ : ∃ v, Hid (v = readV 3 bs) := ⟨_, hid rfl⟩
 have Hf8 : Hid (U8 fv) := hid (by rw [Hfv.out]; exact formV_u8 _)
 rw [← Hfv.out, hr, ← Hvv.out] at HC
 rw [← Hfv.out] at he
 have He := hid he
 clear he
 rw [← Hvv.out]
 clear hr
 go_enter Tryz.func45, Tryz.ntmps45
 go_upto_region 7 with (first
  | (go_at_call 33; refine HB.out.mono ?_; rintro _ _ ⟨rfl, rfl⟩)
  | (go_at_call 130; refine HC.out.mono ?_; rintro _ w2 ⟨cs, rfl, a2, t2, f2, o2⟩; have HA2 := hid a2; have HRt := hid (t2 w2 (Apart.refl _ _)); have HF := hid f2; have HOo := hid o2; clear a2 t2 f2 o2 HC))
 go_wp2_with (first
  | (go_at_call 131; refine HRt.out.mono ?_; rintro _ w3 ⟨rfl, a3⟩; have HA3 := hid a3; clear a3)
  | (go_at_call 128; refine (HF.out _ HA3.out).mono ?_; rintro _ w4 ⟨s4, rfl, b4⟩; have HB4 := hid b4; clear b4)
  | (go_at_call 61; refine (equal_ok (s := s4) HB4.out.nw.rd HB4.out.len.symm HB4.out.nw.ok ((HH.out.rd.kept0 (HA2.out.trans HA3.out)).kept0 HB4.out.nw.ap) HH.out.len HH.out.ok).mono ?_; rintro _ _ ⟨rfl, rfl⟩; rw [strB_eq Hf8.out HH.out.u8, decide_eq_true He.out]))
 go_ret2
 have HA4 := ((HA2.out.trans HA3.out).trans HB4.out.nw.ap)
 refine ⟨_, rfl, HA4.size, ?_, HA4.alloc _⟩
 exact HOo.out _ _ ((HA3.out.trans HB4.out.nw.ap).alloc _) (heap_alloc_new _ _)
theorem Read3_bad {w : World} {sl : Sl} {bs : List Nat} (h : Rdy 3 w sl bs) (hr : rightV (readV 3 bs) = false) : Calls Tryz.prog 45 #[.int .i64 3, .slice sl.p sl.n sl.c] w fun r w' => r = .returned (.tuple #[.pointer none, .int .i64 190]) ∧ Apart [] w w' := by
 have HB : Hid (Calls Tryz.prog 33 #[.int .i64 3] w fun r w' => r = .returned (.iface 106 (.agg (rv (zr ++ zr)).toArray)) ∧ w' = w) := hid (blank_ok w 3 (by omega) (by omega))
 have hz : ∀ wx, (binOp .eql 68 (.iface 106 (.agg (rv (zr ++ zr)).toArray)) .nilIface).run Tryz.prog wx = .ok (.bool false) wx := fun wx => zb_ne 3 wx
 have hg : ∀ x y wx, (eqGuard .eql 68 x y (.iface 106 (.agg (rv (zr ++ zr)).toArray)) .nilIface).run Tryz.prog wx = .ok () wx := fun x y wx => zb_gd 3 x y wx
 have hn : ¬ ((sl.n : Nat) : Int) > 64 := by have h1 := h.len; have h2 := h.le; omega
 have HC := hid h.read3
 have HH := hid h
 have hm1 := mr_read3
 have hm2 := mr_right3
 have hm3 := mr_form3
 clear h
 obtain ⟨bk, Hbk⟩ : ∃ b, Hid (b = (rv (zr ++ zr)).toArray) := ⟨_, hid rfl⟩
 rw [← Hbk.out] at HB hz hg HC
 obtain ⟨fv, Hfv⟩ : ∃ f, Hid (f = formV (readV 3 bs)) := ⟨_, hid rfl⟩
 obtain ⟨vv, Hvv⟩ : ∃ v, Hid (v = readV 3 bs) := ⟨_, hid rfl⟩
 have Hf8 : Hid (U8 fv) := hid (by rw [Hfv.out]; exact formV_u8 _)
 rw [← Hfv.out, hr, ← Hvv.out] at HC
 clear hr
 go_enter Tryz.func45, Tryz.ntmps45
 go_upto_region 7 with (first
  | (go_at_call 33; refine HB.out.mono ?_; rintro _ _ ⟨rfl, rfl⟩)
  | (go_at_call 130; refine HC.out.mono ?_; rintro _ w2 ⟨cs, rfl, a2, t2, f2, o2⟩; have HA2 := hid a2; have HRt := hid (t2 w2 (Apart.refl _ _)); have HF := hid f2; have HOo := hid o2; clear a2 t2 f2 o2 HC))
 go_wp2_with (first
  | (go_at_call 131; refine HRt.out.mono ?_; rintro _ w3 ⟨rfl, a3⟩; have HA3 := hid a3; clear a3))
 go_ret2
 exact ⟨rfl, HA2.out.trans HA3.out⟩
theorem Read3_ne {w : World} {sl : Sl} {bs : List Nat} (h : Rdy 3 w sl bs) (hr : rightV (readV 3 bs) = true) (he : formV (readV 3 bs) ≠ bs) : Calls Tryz.prog 45 #[.int .i64 3, .slice sl.p sl.n sl.c] w fun r w' => r = .returned (.tuple #[.pointer none, .int .i64 190]) ∧ Apart [] w w' := by
 have HB : Hid (Calls Tryz.prog 33 #[.int .i64 3] w fun r w' => r = .returned (.iface 106 (.agg (rv (zr ++ zr)).toArray)) ∧ w' = w) := hid (blank_ok w 3 (by omega) (by omega))
 have hz : ∀ wx, (binOp .eql 68 (.iface 106 (.agg (rv (zr ++ zr)).toArray)) .nilIface).run Tryz.prog wx = .ok (.bool false) wx := fun wx => zb_ne 3 wx
 have hg : ∀ x y wx, (eqGuard .eql 68 x y (.iface 106 (.agg (rv (zr ++ zr)).toArray)) .nilIface).run Tryz.prog wx = .ok () wx := fun x y wx => zb_gd 3 x y wx
 have hn : ¬ ((sl.n : Nat) : Int) > 64 := by have h1 := h.len; have h2 := h.le; omega
 have HC := hid h.read3
 have HH := hid h
 have hm1 := mr_read3
 have hm2 := mr_right3
 have hm3 := mr_form3
 clear h
 obtain ⟨bk, Hbk⟩ : ∃ b, Hid (b = (rv (zr ++ zr)).toArray) := ⟨_, hid rfl⟩
 rw [← Hbk.out] at HB hz hg HC
 obtain ⟨fv, Hfv⟩ : ∃ f, Hid (f = formV (readV 3 bs)) := ⟨_, hid rfl⟩
 obtain ⟨vv, Hvv⟩ : ∃ v, Hid (v = readV 3 bs) := ⟨_, hid rfl⟩
 have Hf8 : Hid (U8 fv) := hid (by rw [Hfv.out]; exact formV_u8 _)
 rw [← Hfv.out, hr, ← Hvv.out] at HC
 rw [← Hfv.out] at he
 have He := hid he
 clear he
 clear hr
 go_enter Tryz.func45, Tryz.ntmps45
 go_upto_region 7 with (first
  | (go_at_call 33; refine HB.out.mono ?_; rintro _ _ ⟨rfl, rfl⟩)
  | (go_at_call 130; refine HC.out.mono ?_; rintro _ w2 ⟨cs, rfl, a2, t2, f2, o2⟩; have HA2 := hid a2; have HRt := hid (t2 w2 (Apart.refl _ _)); have HF := hid f2; have HOo := hid o2; clear a2 t2 f2 o2 HC))
 go_wp2_with (first
  | (go_at_call 131; refine HRt.out.mono ?_; rintro _ w3 ⟨rfl, a3⟩; have HA3 := hid a3; clear a3)
  | (go_at_call 128; refine (HF.out _ HA3.out).mono ?_; rintro _ w4 ⟨s4, rfl, b4⟩; have HB4 := hid b4; clear b4)
  | (go_at_call 61; refine (equal_ok (s := s4) HB4.out.nw.rd HB4.out.len.symm HB4.out.nw.ok ((HH.out.rd.kept0 (HA2.out.trans HA3.out)).kept0 HB4.out.nw.ap) HH.out.len HH.out.ok).mono ?_; rintro _ _ ⟨rfl, rfl⟩; rw [strB_eq Hf8.out HH.out.u8, decide_eq_false He.out]))
 go_ret2
 exact ⟨rfl, (HA2.out.trans HA3.out).trans HB4.out.nw.ap⟩
theorem Read4_yes {w : World} {sl : Sl} {bs : List Nat} (h : Rdy 4 w sl bs) (hr : rightV (readV 4 bs) = true) (he : formV (readV 4 bs) = bs) : Calls Tryz.prog 45 #[.int .i64 4, .slice sl.p sl.n sl.c] w fun r w' => ∃ V, r = .returned (.tuple #[.pointer (some ⟨V, 0, none⟩), .int .i64 0]) ∧ w.heap.size ≤ V ∧ Ho w' V (readV 4 bs) ∧ Apart [] w w' := by
 have HB : Hid (Calls Tryz.prog 33 #[.int .i64 4] w fun r w' => r = .returned (.iface 108 (.agg (ty.rg 0 0 ⟨#[]⟩))) ∧ w' = w) := hid (blank_ok w 4 (by omega) (by omega))
 have hz : ∀ wx, (binOp .eql 68 (.iface 108 (.agg (ty.rg 0 0 ⟨#[]⟩))) .nilIface).run Tryz.prog wx = .ok (.bool false) wx := fun wx => zb_ne 4 wx
 have hg : ∀ x y wx, (eqGuard .eql 68 x y (.iface 108 (.agg (ty.rg 0 0 ⟨#[]⟩))) .nilIface).run Tryz.prog wx = .ok () wx := fun x y wx => zb_gd 4 x y wx
 have hn : ¬ ((sl.n : Nat) : Int) > 64 := by have h1 := h.len; have h2 := h.le; omega
 have HC := hid h.read4
 have HH := hid h
 have hm1 := mr_read4
 have hm2 := mr_right4
 have hm3 := mr_form4
 clear h
 obtain ⟨bk, Hbk⟩ : ∃ b, Hid (b = (ty.rg 0 0 ⟨#[]⟩)) := ⟨_, hid rfl⟩
 rw [← Hbk.out] at HB hz hg HC
 obtain ⟨fv, Hfv⟩ : ∃ f, Hid (f = formV (readV 4 bs)) := ⟨_, hid rfl⟩
 obtain ⟨vv, Hvv⟩ : ∃ v, Hid (v = readV 4 bs) := ⟨_, hid rfl⟩
 have Hf8 : Hid (U8 fv) := hid (by rw [Hfv.out]; exact formV_u8 _)
 rw [← Hfv.out, hr, ← Hvv.out] at HC
 rw [← Hfv.out] at he
 have He := hid he
 clear he
 rw [← Hvv.out]
 clear hr
 go_enter Tryz.func45, Tryz.ntmps45
 go_upto_region 7 with (first
  | (go_at_call 33; refine HB.out.mono ?_; rintro _ _ ⟨rfl, rfl⟩)
  | (go_at_call 134; refine HC.out.mono ?_; rintro _ w2 ⟨cs, rfl, a2, t2, f2, o2⟩; have HA2 := hid a2; have HRt := hid (t2 w2 (Apart.refl _ _)); have HF := hid f2; have HOo := hid o2; clear a2 t2 f2 o2 HC))
 go_wp2_with (first
  | (go_at_call 135; refine HRt.out.mono ?_; rintro _ w3 ⟨rfl, a3⟩; have HA3 := hid a3; clear a3)
  | (go_at_call 133; refine (HF.out _ HA3.out).mono ?_; rintro _ w4 ⟨s4, rfl, b4⟩; have HB4 := hid b4; clear b4)
  | (go_at_call 61; refine (equal_ok (s := s4) HB4.out.nw.rd HB4.out.len.symm HB4.out.nw.ok ((HH.out.rd.kept0 (HA2.out.trans HA3.out)).kept0 HB4.out.nw.ap) HH.out.len HH.out.ok).mono ?_; rintro _ _ ⟨rfl, rfl⟩; rw [strB_eq Hf8.out HH.out.u8, decide_eq_true He.out]))
 go_ret2
 have HA4 := ((HA2.out.trans HA3.out).trans HB4.out.nw.ap)
 refine ⟨_, rfl, HA4.size, ?_, HA4.alloc _⟩
 exact HOo.out _ _ ((HA3.out.trans HB4.out.nw.ap).alloc _) (heap_alloc_new _ _)
theorem Read4_bad {w : World} {sl : Sl} {bs : List Nat} (h : Rdy 4 w sl bs) (hr : rightV (readV 4 bs) = false) : Calls Tryz.prog 45 #[.int .i64 4, .slice sl.p sl.n sl.c] w fun r w' => r = .returned (.tuple #[.pointer none, .int .i64 190]) ∧ Apart [] w w' := by
 have HB : Hid (Calls Tryz.prog 33 #[.int .i64 4] w fun r w' => r = .returned (.iface 108 (.agg (ty.rg 0 0 ⟨#[]⟩))) ∧ w' = w) := hid (blank_ok w 4 (by omega) (by omega))
 have hz : ∀ wx, (binOp .eql 68 (.iface 108 (.agg (ty.rg 0 0 ⟨#[]⟩))) .nilIface).run Tryz.prog wx = .ok (.bool false) wx := fun wx => zb_ne 4 wx
 have hg : ∀ x y wx, (eqGuard .eql 68 x y (.iface 108 (.agg (ty.rg 0 0 ⟨#[]⟩))) .nilIface).run Tryz.prog wx = .ok () wx := fun x y wx => zb_gd 4 x y wx
 have hn : ¬ ((sl.n : Nat) : Int) > 64 := by have h1 := h.len; have h2 := h.le; omega
 have HC := hid h.read4
 have HH := hid h
 have hm1 := mr_read4
 have hm2 := mr_right4
 have hm3 := mr_form4
 clear h
 obtain ⟨bk, Hbk⟩ : ∃ b, Hid (b = (ty.rg 0 0 ⟨#[]⟩)) := ⟨_, hid rfl⟩
 rw [← Hbk.out] at HB hz hg HC
 obtain ⟨fv, Hfv⟩ : ∃ f, Hid (f = formV (readV 4 bs)) := ⟨_, hid rfl⟩
 obtain ⟨vv, Hvv⟩ : ∃ v, Hid (v = readV 4 bs) := ⟨_, hid rfl⟩
 have Hf8 : Hid (U8 fv) := hid (by rw [Hfv.out]; exact formV_u8 _)
 rw [← Hfv.out, hr, ← Hvv.out] at HC
 clear hr
 go_enter Tryz.func45, Tryz.ntmps45
 go_upto_region 7 with (first
  | (go_at_call 33; refine HB.out.mono ?_; rintro _ _ ⟨rfl, rfl⟩)
  | (go_at_call 134; refine HC.out.mono ?_; rintro _ w2 ⟨cs, rfl, a2, t2, f2, o2⟩; have HA2 := hid a2; have HRt := hid (t2 w2 (Apart.refl _ _)); have HF := hid f2; have HOo := hid o2; clear a2 t2 f2 o2 HC))
 go_wp2_with (first
  | (go_at_call 135; refine HRt.out.mono ?_; rintro _ w3 ⟨rfl, a3⟩; have HA3 := hid a3; clear a3))
 go_ret2
 exact ⟨rfl, HA2.out.trans HA3.out⟩
theorem Read4_ne {w : World} {sl : Sl} {bs : List Nat} (h : Rdy 4 w sl bs) (hr : rightV (readV 4 bs) = true) (he : formV (readV 4 bs) ≠ bs) : Calls Tryz.prog 45 #[.int .i64 4, .slice sl.p sl.n sl.c] w fun r w' => r = .returned (.tuple #[.pointer none, .int .i64 190]) ∧ Apart [] w w' := by
 have HB : Hid (Calls Tryz.prog 33 #[.int .i64 4] w fun r w' => r = .returned (.iface 108 (.agg (ty.rg 0 0 ⟨#[]⟩))) ∧ w' = w) := hid (blank_ok w 4 (by omega) (by omega))
 have hz : ∀ wx, (binOp .eql 68 (.iface 108 (.agg (ty.rg 0 0 ⟨#[]⟩))) .nilIface).run Tryz.prog wx = .ok (.bool false) wx := fun wx => zb_ne 4 wx
 have hg : ∀ x y wx, (eqGuard .eql 68 x y (.iface 108 (.agg (ty.rg 0 0 ⟨#[]⟩))) .nilIface).run Tryz.prog wx = .ok () wx := fun x y wx => zb_gd 4 x y wx
 have hn : ¬ ((sl.n : Nat) : Int) > 64 := by have h1 := h.len; have h2 := h.le; omega
 have HC := hid h.read4
 have HH := hid h
 have hm1 := mr_read4
 have hm2 := mr_right4
 have hm3 := mr_form4
 clear h
 obtain ⟨bk, Hbk⟩ : ∃ b, Hid (b = (ty.rg 0 0 ⟨#[]⟩)) := ⟨_, hid rfl⟩
 rw [← Hbk.out] at HB hz hg HC
 obtain ⟨fv, Hfv⟩ : ∃ f, Hid (f = formV (readV 4 bs)) := ⟨_, hid rfl⟩
 obtain ⟨vv, Hvv⟩ : ∃ v, Hid (v = readV 4 bs) := ⟨_, hid rfl⟩
 have Hf8 : Hid (U8 fv) := hid (by rw [Hfv.out]; exact formV_u8 _)
 rw [← Hfv.out, hr, ← Hvv.out] at HC
 rw [← Hfv.out] at he
 have He := hid he
 clear he
 clear hr
 go_enter Tryz.func45, Tryz.ntmps45
 go_upto_region 7 with (first
  | (go_at_call 33; refine HB.out.mono ?_; rintro _ _ ⟨rfl, rfl⟩)
  | (go_at_call 134; refine HC.out.mono ?_; rintro _ w2 ⟨cs, rfl, a2, t2, f2, o2⟩; have HA2 := hid a2; have HRt := hid (t2 w2 (Apart.refl _ _)); have HF := hid f2; have HOo := hid o2; clear a2 t2 f2 o2 HC))
 go_wp2_with (first
  | (go_at_call 135; refine HRt.out.mono ?_; rintro _ w3 ⟨rfl, a3⟩; have HA3 := hid a3; clear a3)
  | (go_at_call 133; refine (HF.out _ HA3.out).mono ?_; rintro _ w4 ⟨s4, rfl, b4⟩; have HB4 := hid b4; clear b4)
  | (go_at_call 61; refine (equal_ok (s := s4) HB4.out.nw.rd HB4.out.len.symm HB4.out.nw.ok ((HH.out.rd.kept0 (HA2.out.trans HA3.out)).kept0 HB4.out.nw.ap) HH.out.len HH.out.ok).mono ?_; rintro _ _ ⟨rfl, rfl⟩; rw [strB_eq Hf8.out HH.out.u8, decide_eq_false He.out]))
 go_ret2
 exact ⟨rfl, (HA2.out.trans HA3.out).trans HB4.out.nw.ap⟩
end Go.Proofs.YtdbeeikjngnnnaaGreat.ty
