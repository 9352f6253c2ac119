import Derived.Test.YtdbeeikjngnnnaaT31
namespace Go.Proofs.Ytdbeeikjngnnnaa.ty
open Go.ChangeShapes Go.WideShapes Go.ChangeAt Go.RowKit
set_option linter.unusedVariables false
set_option linter.unusedSimpArgs false
set_option maxHeartbeats 4000000 in
set_option maxRecDepth 100000 in
theorem st4eg {w : World} (i : Nat) (hi : i < 8) : Calls Try.prog 4 #[.int .i64 4, .int .i64 4, .int .i64 (i : Int)] w fun r w' => r = .returned (.bool true) ∧ Apart [] w w' := by
  obtain ⟨v1, v2, v3, v4, v5, T⟩ := tab_good (k := 4) (by omega) (by omega) hi
  have hg0 : ((i : Nat) : Int) ≥ 0 := by omega
  have hg7 : ((i : Nat) : Int) ≤ 7 := by omega
  have HT := hid T
  clear T
  have HN1 : Hid (Calls Try.prog 9 #[.int .i64 4] w fun r w' => r = .returned (.tuple #[.pointer (some ⟨w.heap.size, 0, none⟩), .int .i64 0]) ∧ w' = w.alloc (.cells #[zb 4] 70)) := hid (new_ok w 4 (by omega) (by omega))
  have HVn := hid (Ho.new w 4 (by omega) (by omega))
  obtain ⟨V, HVe⟩ : ∃ V, Hid (V = w.heap.size) := ⟨_, hid rfl⟩
  obtain ⟨w1, Hw1⟩ : ∃ W, Hid (W = w.alloc (.cells #[zb 4] 70)) := ⟨_, hid rfl⟩
  have HA1 : Hid (Apart [] w w1) := by unfold Hid; rw [Hw1.out]; exact (Apart.refl [] w).alloc _
  rw [← HVe.out, ← Hw1.out] at HN1 HVn
  have HN2 : Hid (Calls Try.prog 9 #[.int .i64 4] w1 fun r w' => r = .returned (.tuple #[.pointer (some ⟨w1.heap.size, 0, none⟩), .int .i64 0]) ∧ w' = w1.alloc (.cells #[zb 4] 70)) := hid (new_ok w1 4 (by omega) (by omega))
  have HOn := hid (Ho.new w1 4 (by omega) (by omega))
  obtain ⟨O, HOe⟩ : ∃ V, Hid (V = w1.heap.size) := ⟨_, hid rfl⟩
  obtain ⟨w2, Hw2⟩ : ∃ W, Hid (W = w1.alloc (.cells #[zb 4] 70)) := ⟨_, hid rfl⟩
  have HA2 : Hid (Apart [] w1 w2) := by unfold Hid; rw [Hw2.out]; exact (Apart.refl [] w1).alloc _
  rw [← HOe.out, ← Hw2.out] at HN2 HOn
  have HLV : Hid (w.heap.size ≤ V) := hid (by rw [HVe.out]; exact Nat.le_refl _)
  clear HVe Hw1 HOe Hw2
  have HAb := hid (able_ok w2)
  have h22 := fun (w : World) (C : Array Value) (n c : Nat) => Lib.run_convert_bytes_const (P := Try.prog) w 22 5 C n c Try.underlying22 Try.underlying5
  go_enter Try.func4, Try.ntmps4
  go_upto_region 7 with (first
    | (go_at_call 9; refine HN1.out.mono ?_; rintro _ _ ⟨rfl, rfl⟩; clear HN1)
    | (go_at_call 9; refine HN2.out.mono ?_; rintro _ _ ⟨rfl, rfl⟩; clear HN2)
    | (go_at_call 7; refine HAb.out.mono ?_; rintro _ w3 ⟨rfl, a3⟩; have HA3 := hid a3; clear a3))
  have HV3 : Hid (Ho w3 V (new0 4)) := hid ((HVn.out.kept0 HA2.out).kept0 HA3.out)
  have HO3 : Hid (Ho w3 O (new0 4)) := hid (HOn.out.kept0 HA3.out)
  replace HA3 : Hid (Apart [] w w3) := hid ((HA1.out.trans HA2.out).trans HA3.out)
  clear HAb HVn HOn HA1 HA2
  have HM := hid (Merge_new 4 (by omega) (by omega) HV3.out HO3.out)
  go_upto_region 9 with (go_at_call 14; refine HM.out.mono ?_; rintro _ w4 ⟨rfl, v4', a4⟩; have HV4 := hid v4'; have HA4 := hid a4; clear v4' a4)
  replace HA4 : Hid (Apart [] w w4) := hid (HA3.out.trans' HA4.out (by intro y hy; simp at hy; rw [hy]; exact .inr HLV.out))
  clear HM HV3 HO3 HA3
  have W1 : Hid (∀ wx, Calls Try.prog 16 #[.int .i64 4, .int .i64 1, .bool true] wx fun r w' => r = .returned (.int .i64 190) ∧ w' = wx) := hid (fun wx => wanted_t wx 4 1 true)
  have W2 : Hid (∀ wx, Calls Try.prog 16 #[.int .i64 4, .int .i64 2, .bool true] wx fun r w' => r = .returned (.int .i64 190) ∧ w' = wx) := hid (fun wx => wanted_t wx 4 2 true)
  have W3 : Hid (∀ wx, Calls Try.prog 16 #[.int .i64 4, .int .i64 3, .bool true] wx fun r w' => r = .returned (.int .i64 190) ∧ w' = wx) := hid (fun wx => wanted_t wx 4 3 true)
  have W4 : Hid (∀ wx, Calls Try.prog 16 #[.int .i64 4, .int .i64 4, .bool true] wx fun r w' => r = .returned (.int .i64 0) ∧ w' = wx) := hid (fun wx => wanted_t wx 4 4 true)
  have E1 : Hid (addR (new0 4) (i : Int) 3 = (190, v1)) := hid (by have := HT.out.e1; rwa [show wn 4 1 true = 190 from by decide] at this)
  have E2 : Hid (putR v1 (i : Int) [101] = (190, v2)) := hid (by have := HT.out.e2; rwa [show wn 4 2 true = 190 from by decide] at this)
  have E3 : Hid (switchR v2 (i : Int) true = (190, v3)) := hid (by have := HT.out.e3; rwa [show wn 4 3 true = 190 from by decide] at this)
  have E4 : Hid (writeR v3 (i : Int) [116] = (0, v4)) := hid (by have := HT.out.e4; rwa [show wn 4 4 true = 0 from by decide] at this)
  have E5 : Hid (takeR v4 [120] = (190, v5)) := hid (by have := HT.out.e5; rwa [show (if 4 = 2 then (0 : Int) else 190) = 190 from by decide] at this)
  go_upto_region 12 with (first
    | (go_at_call 15; refine (Add_t HV4.out (new0_ok 4) E1.out).mono ?_; rintro _ w5 ⟨rfl, h', a'⟩; have HV5 := hid h'; have HA5 : Hid (Apart [] w w5) := hid (HA4.out.trans' a' (by intro y hy; simp at hy; rw [hy]; exact .inr HLV.out)); clear h' a')
    | (go_at_call 17; refine (Put_t (y := 101) (m := (1, 2)) rfl HV5.out HT.out.o1 E2.out).mono ?_; rintro _ w6 ⟨rfl, h', a'⟩; have HV6 := hid h'; have HA6 : Hid (Apart [] w w6) := hid (HA5.out.trans' a' (by intro y hy; simp at hy; rw [hy]; exact .inr HLV.out)); clear h' a')
    | (go_at_call 18; refine (Switch_t HV6.out HT.out.o2 E3.out).mono ?_; rintro _ w7 ⟨rfl, h', a'⟩; have HV7 := hid h'; have HA7 : Hid (Apart [] w w7) := hid (HA6.out.trans' a' (by intro y hy; simp at hy; rw [hy]; exact .inr HLV.out)); clear h' a')
    | (go_at_call 19; refine (Write_t (y := 116) (m := (1, 2)) rfl HV7.out HT.out.o3 E4.out).mono ?_; rintro _ w8 ⟨rfl, h', a'⟩; have HV8 := hid h'; have HA8 : Hid (Apart [] w w8) := hid (HA7.out.trans' a' (by intro y hy; simp at hy; rw [hy]; exact .inr HLV.out)); clear h' a')
    | (go_at_call 16; refine (W1.out _).mono ?_; rintro _ _ ⟨rfl, rfl⟩; clear W1)
    | (go_at_call 16; refine (W2.out _).mono ?_; rintro _ _ ⟨rfl, rfl⟩; clear W2)
    | (go_at_call 16; refine (W3.out _).mono ?_; rintro _ _ ⟨rfl, rfl⟩; clear W3)
    | (go_at_call 16; refine (W4.out _).mono ?_; rintro _ _ ⟨rfl, rfl⟩; clear W4))
  go_upto_region 14 with (first
    | (go_at_call 20; refine (Take_t (y := 120) (m := (1, 2)) rfl HV8.out HT.out.o4 E5.out).mono ?_; rintro _ w9 ⟨rfl, h', a'⟩; have HV9 := hid h'; have HA9 : Hid (Apart [] w w9) := hid (HA8.out.trans' a' (by intro y hy; simp at hy; rw [hy]; exact .inr HLV.out)); clear h' a'))
  have Esm : Hid (sumR v5 = 0) := hid (by have := HT.out.sm; simpa using this)
  have Eel : Hid ((elsR v5).length = 0) := hid (by have := HT.out.el; simpa using this)
  have Eon : Hid (onR v5 = false) := hid (by have := HT.out.on; simpa using this)
  have Etx : Hid (textR v5 = [116]) := hid (by have := HT.out.tx; simpa using this)
  have HS := hid (Sum_v HV9.out HT.out.o5)
  rw [Esm.out] at HS
  have HEl := hid (fun wx (h : Apart [] w9 wx) => Elements_t (HV9.out.kept0 h) HT.out.o5 Eel.out)
  have HOn := hid (fun wx (h : Apart [] w9 wx) => On_v (HV9.out.kept0 h) HT.out.o5)
  rw [Eon.out] at HOn
  have HTx := hid (fun wx (h : Apart [] w9 wx) => Text_t (HV9.out.kept0 h) HT.out.o5 Etx.out strB_t)
  have htn := t_ne
  go_wp2_with (first
    | (go_at_call 21; refine HS.out.mono ?_; rintro _ wa ⟨rfl, aa⟩; have HAa := hid aa; clear aa)
    | (go_at_call 22; refine (HEl.out _ HAa.out).mono ?_; rintro _ wb ⟨p1, c1, rfl, ab⟩; have HAb := hid (HAa.out.trans ab); clear ab)
    | (go_at_call 23; refine (HOn.out _ HAb.out).mono ?_; rintro _ wc ⟨rfl, ac⟩; have HAc := hid (HAb.out.trans ac); clear ac)
    | (go_at_call 24; refine (HTx.out _ HAc.out).mono ?_; rintro _ wd ⟨sl, rfl, ad, hcv⟩; have HAd := hid (HAc.out.trans ad); clear ad))
  go_ret
  exact ⟨by first | rfl | simp, HA9.out.trans HAd.out⟩
set_option maxHeartbeats 4000000 in
set_option maxRecDepth 100000 in
theorem st4el {w : World} (a : Int) (hb : a < 0) : Calls Try.prog 4 #[.int .i64 4, .int .i64 4, .int .i64 a] w fun r w' => r = .returned (.bool true) ∧ Apart [] w w' := by
  have ha : isA a = false := by simp [isA]; omega
  obtain ⟨v1, v2, v3, v4, v5, T⟩ : ∃ v1 v2 v3 v4 v5, Tab 4 false a v1 v2 v3 v4 v5 := ⟨_, _, _, _, _, tab_bad (by omega) (by omega) ha⟩
  have hg0 : ¬ a ≥ 0 := by omega
  clear ha
  have HT := hid T
  clear T
  have HN1 : Hid (Calls Try.prog 9 #[.int .i64 4] w fun r w' => r = .returned (.tuple #[.pointer (some ⟨w.heap.size, 0, none⟩), .int .i64 0]) ∧ w' = w.alloc (.cells #[zb 4] 70)) := hid (new_ok w 4 (by omega) (by omega))
  have HVn := hid (Ho.new w 4 (by omega) (by omega))
  obtain ⟨V, HVe⟩ : ∃ V, Hid (V = w.heap.size) := ⟨_, hid rfl⟩
  obtain ⟨w1, Hw1⟩ : ∃ W, Hid (W = w.alloc (.cells #[zb 4] 70)) := ⟨_, hid rfl⟩
  have HA1 : Hid (Apart [] w w1) := by unfold Hid; rw [Hw1.out]; exact (Apart.refl [] w).alloc _
  rw [← HVe.out, ← Hw1.out] at HN1 HVn
  have HN2 : Hid (Calls Try.prog 9 #[.int .i64 4] w1 fun r w' => r = .returned (.tuple #[.pointer (some ⟨w1.heap.size, 0, none⟩), .int .i64 0]) ∧ w' = w1.alloc (.cells #[zb 4] 70)) := hid (new_ok w1 4 (by omega) (by omega))
  have HOn := hid (Ho.new w1 4 (by omega) (by omega))
  obtain ⟨O, HOe⟩ : ∃ V, Hid (V = w1.heap.size) := ⟨_, hid rfl⟩
  obtain ⟨w2, Hw2⟩ : ∃ W, Hid (W = w1.alloc (.cells #[zb 4] 70)) := ⟨_, hid rfl⟩
  have HA2 : Hid (Apart [] w1 w2) := by unfold Hid; rw [Hw2.out]; exact (Apart.refl [] w1).alloc _
  rw [← HOe.out, ← Hw2.out] at HN2 HOn
  have HLV : Hid (w.heap.size ≤ V) := hid (by rw [HVe.out]; exact Nat.le_refl _)
  clear HVe Hw1 HOe Hw2
  have HAb := hid (able_ok w2)
  have h22 := fun (w : World) (C : Array Value) (n c : Nat) => Lib.run_convert_bytes_const (P := Try.prog) w 22 5 C n c Try.underlying22 Try.underlying5
  go_enter Try.func4, Try.ntmps4
  go_upto_region 7 with (first
    | (go_at_call 9; refine HN1.out.mono ?_; rintro _ _ ⟨rfl, rfl⟩; clear HN1)
    | (go_at_call 9; refine HN2.out.mono ?_; rintro _ _ ⟨rfl, rfl⟩; clear HN2)
    | (go_at_call 7; refine HAb.out.mono ?_; rintro _ w3 ⟨rfl, a3⟩; have HA3 := hid a3; clear a3))
  have HV3 : Hid (Ho w3 V (new0 4)) := hid ((HVn.out.kept0 HA2.out).kept0 HA3.out)
  have HO3 : Hid (Ho w3 O (new0 4)) := hid (HOn.out.kept0 HA3.out)
  replace HA3 : Hid (Apart [] w w3) := hid ((HA1.out.trans HA2.out).trans HA3.out)
  clear HAb HVn HOn HA1 HA2
  have HM := hid (Merge_new 4 (by omega) (by omega) HV3.out HO3.out)
  go_upto_region 9 with (go_at_call 14; refine HM.out.mono ?_; rintro _ w4 ⟨rfl, v4', a4⟩; have HV4 := hid v4'; have HA4 := hid a4; clear v4' a4)
  replace HA4 : Hid (Apart [] w w4) := hid (HA3.out.trans' HA4.out (by intro y hy; simp at hy; rw [hy]; exact .inr HLV.out))
  clear HM HV3 HO3 HA3
  have W1 : Hid (∀ wx, Calls Try.prog 16 #[.int .i64 4, .int .i64 1, .bool false] wx fun r w' => r = .returned (.int .i64 190) ∧ w' = wx) := hid (fun wx => wanted_t wx 4 1 false)
  have W2 : Hid (∀ wx, Calls Try.prog 16 #[.int .i64 4, .int .i64 2, .bool false] wx fun r w' => r = .returned (.int .i64 190) ∧ w' = wx) := hid (fun wx => wanted_t wx 4 2 false)
  have W3 : Hid (∀ wx, Calls Try.prog 16 #[.int .i64 4, .int .i64 3, .bool false] wx fun r w' => r = .returned (.int .i64 190) ∧ w' = wx) := hid (fun wx => wanted_t wx 4 3 false)
  have W4 : Hid (∀ wx, Calls Try.prog 16 #[.int .i64 4, .int .i64 4, .bool false] wx fun r w' => r = .returned (.int .i64 191) ∧ w' = wx) := hid (fun wx => wanted_t wx 4 4 false)
  have E1 : Hid (addR (new0 4) a 3 = (190, v1)) := hid (by have := HT.out.e1; rwa [show wn 4 1 false = 190 from by decide] at this)
  have E2 : Hid (putR v1 a [101] = (190, v2)) := hid (by have := HT.out.e2; rwa [show wn 4 2 false = 190 from by decide] at this)
  have E3 : Hid (switchR v2 a true = (190, v3)) := hid (by have := HT.out.e3; rwa [show wn 4 3 false = 190 from by decide] at this)
  have E4 : Hid (writeR v3 a [116] = (191, v4)) := hid (by have := HT.out.e4; rwa [show wn 4 4 false = 191 from by decide] at this)
  have E5 : Hid (takeR v4 [120] = (190, v5)) := hid (by have := HT.out.e5; rwa [show (if 4 = 2 then (0 : Int) else 190) = 190 from by decide] at this)
  go_upto_region 12 with (first
    | (go_at_call 15; refine (Add_t HV4.out (new0_ok 4) E1.out).mono ?_; rintro _ w5 ⟨rfl, h', a'⟩; have HV5 := hid h'; have HA5 : Hid (Apart [] w w5) := hid (HA4.out.trans' a' (by intro y hy; simp at hy; rw [hy]; exact .inr HLV.out)); clear h' a')
    | (go_at_call 17; refine (Put_t (y := 101) (m := (1, 2)) rfl HV5.out HT.out.o1 E2.out).mono ?_; rintro _ w6 ⟨rfl, h', a'⟩; have HV6 := hid h'; have HA6 : Hid (Apart [] w w6) := hid (HA5.out.trans' a' (by intro y hy; simp at hy; rw [hy]; exact .inr HLV.out)); clear h' a')
    | (go_at_call 18; refine (Switch_t HV6.out HT.out.o2 E3.out).mono ?_; rintro _ w7 ⟨rfl, h', a'⟩; have HV7 := hid h'; have HA7 : Hid (Apart [] w w7) := hid (HA6.out.trans' a' (by intro y hy; simp at hy; rw [hy]; exact .inr HLV.out)); clear h' a')
    | (go_at_call 19; refine (Write_t (y := 116) (m := (1, 2)) rfl HV7.out HT.out.o3 E4.out).mono ?_; rintro _ w8 ⟨rfl, h', a'⟩; have HV8 := hid h'; have HA8 : Hid (Apart [] w w8) := hid (HA7.out.trans' a' (by intro y hy; simp at hy; rw [hy]; exact .inr HLV.out)); clear h' a')
    | (go_at_call 16; refine (W1.out _).mono ?_; rintro _ _ ⟨rfl, rfl⟩; clear W1)
    | (go_at_call 16; refine (W2.out _).mono ?_; rintro _ _ ⟨rfl, rfl⟩; clear W2)
    | (go_at_call 16; refine (W3.out _).mono ?_; rintro _ _ ⟨rfl, rfl⟩; clear W3)
    | (go_at_call 16; refine (W4.out _).mono ?_; rintro _ _ ⟨rfl, rfl⟩; clear W4))
  go_upto_region 14 with (first
    | (go_at_call 20; refine (Take_t (y := 120) (m := (1, 2)) rfl HV8.out HT.out.o4 E5.out).mono ?_; rintro _ w9 ⟨rfl, h', a'⟩; have HV9 := hid h'; have HA9 : Hid (Apart [] w w9) := hid (HA8.out.trans' a' (by intro y hy; simp at hy; rw [hy]; exact .inr HLV.out)); clear h' a'))
  have Esm : Hid (sumR v5 = 0) := hid (by have := HT.out.sm; simpa using this)
  have Eel : Hid ((elsR v5).length = 0) := hid (by have := HT.out.el; simpa using this)
  have Eon : Hid (onR v5 = false) := hid (by have := HT.out.on; simpa using this)
  have Etx : Hid (textR v5 = []) := hid (by have := HT.out.tx; simpa using this)
  have HS := hid (Sum_v HV9.out HT.out.o5)
  rw [Esm.out] at HS
  have HEl := hid (fun wx (h : Apart [] w9 wx) => Elements_t (HV9.out.kept0 h) HT.out.o5 Eel.out)
  have HOn := hid (fun wx (h : Apart [] w9 wx) => On_v (HV9.out.kept0 h) HT.out.o5)
  rw [Eon.out] at HOn
  have HTx := hid (fun wx (h : Apart [] w9 wx) => Text_t (HV9.out.kept0 h) HT.out.o5 Etx.out strB_nil)
  have htn := t_ne
  go_wp2_with (first
    | (go_at_call 21; refine HS.out.mono ?_; rintro _ wa ⟨rfl, aa⟩; have HAa := hid aa; clear aa)
    | (go_at_call 22; refine (HEl.out _ HAa.out).mono ?_; rintro _ wb ⟨p1, c1, rfl, ab⟩; have HAb := hid (HAa.out.trans ab); clear ab)
    | (go_at_call 23; refine (HOn.out _ HAb.out).mono ?_; rintro _ wc ⟨rfl, ac⟩; have HAc := hid (HAb.out.trans ac); clear ac)
    | (go_at_call 24; refine (HTx.out _ HAc.out).mono ?_; rintro _ wd ⟨sl, rfl, ad, hcv⟩; have HAd := hid (HAc.out.trans ad); clear ad))
  go_ret
  exact ⟨by first | rfl | simp, HA9.out.trans HAd.out⟩
set_option maxHeartbeats 4000000 in
set_option maxRecDepth 100000 in
theorem st4eh {w : World} (a : Int) (hb : 7 < a) : Calls Try.prog 4 #[.int .i64 4, .int .i64 4, .int .i64 a] w fun r w' => r = .returned (.bool true) ∧ Apart [] w w' := by
  have ha : isA a = false := by simp [isA]; omega
  obtain ⟨v1, v2, v3, v4, v5, T⟩ : ∃ v1 v2 v3 v4 v5, Tab 4 false a v1 v2 v3 v4 v5 := ⟨_, _, _, _, _, tab_bad (by omega) (by omega) ha⟩
  have hg0 : a ≥ 0 := by omega
  have hg7 : ¬ a ≤ 7 := by omega
  clear ha hb
  have HT := hid T
  clear T
  have HN1 : Hid (Calls Try.prog 9 #[.int .i64 4] w fun r w' => r = .returned (.tuple #[.pointer (some ⟨w.heap.size, 0, none⟩), .int .i64 0]) ∧ w' = w.alloc (.cells #[zb 4] 70)) := hid (new_ok w 4 (by omega) (by omega))
  have HVn := hid (Ho.new w 4 (by omega) (by omega))
  obtain ⟨V, HVe⟩ : ∃ V, Hid (V = w.heap.size) := ⟨_, hid rfl⟩
  obtain ⟨w1, Hw1⟩ : ∃ W, Hid (W = w.alloc (.cells #[zb 4] 70)) := ⟨_, hid rfl⟩
  have HA1 : Hid (Apart [] w w1) := by unfold Hid; rw [Hw1.out]; exact (Apart.refl [] w).alloc _
  rw [← HVe.out, ← Hw1.out] at HN1 HVn
  have HN2 : Hid (Calls Try.prog 9 #[.int .i64 4] w1 fun r w' => r = .returned (.tuple #[.pointer (some ⟨w1.heap.size, 0, none⟩), .int .i64 0]) ∧ w' = w1.alloc (.cells #[zb 4] 70)) := hid (new_ok w1 4 (by omega) (by omega))
  have HOn := hid (Ho.new w1 4 (by omega) (by omega))
  obtain ⟨O, HOe⟩ : ∃ V, Hid (V = w1.heap.size) := ⟨_, hid rfl⟩
  obtain ⟨w2, Hw2⟩ : ∃ W, Hid (W = w1.alloc (.cells #[zb 4] 70)) := ⟨_, hid rfl⟩
  have HA2 : Hid (Apart [] w1 w2) := by unfold Hid; rw [Hw2.out]; exact (Apart.refl [] w1).alloc _
  rw [← HOe.out, ← Hw2.out] at HN2 HOn
  have HLV : Hid (w.heap.size ≤ V) := hid (by rw [HVe.out]; exact Nat.le_refl _)
  clear HVe Hw1 HOe Hw2
  have HAb := hid (able_ok w2)
  have h22 := fun (w : World) (C : Array Value) (n c : Nat) => Lib.run_convert_bytes_const (P := Try.prog) w 22 5 C n c Try.underlying22 Try.underlying5
  go_enter Try.func4, Try.ntmps4
  go_upto_region 7 with (first
    | (go_at_call 9; refine HN1.out.mono ?_; rintro _ _ ⟨rfl, rfl⟩; clear HN1)
    | (go_at_call 9; refine HN2.out.mono ?_; rintro _ _ ⟨rfl, rfl⟩; clear HN2)
    | (go_at_call 7; refine HAb.out.mono ?_; rintro _ w3 ⟨rfl, a3⟩; have HA3 := hid a3; clear a3))
  have HV3 : Hid (Ho w3 V (new0 4)) := hid ((HVn.out.kept0 HA2.out).kept0 HA3.out)
  have HO3 : Hid (Ho w3 O (new0 4)) := hid (HOn.out.kept0 HA3.out)
  replace HA3 : Hid (Apart [] w w3) := hid ((HA1.out.trans HA2.out).trans HA3.out)
  clear HAb HVn HOn HA1 HA2
  have HM := hid (Merge_new 4 (by omega) (by omega) HV3.out HO3.out)
  go_upto_region 9 with (go_at_call 14; refine HM.out.mono ?_; rintro _ w4 ⟨rfl, v4', a4⟩; have HV4 := hid v4'; have HA4 := hid a4; clear v4' a4)
  replace HA4 : Hid (Apart [] w w4) := hid (HA3.out.trans' HA4.out (by intro y hy; simp at hy; rw [hy]; exact .inr HLV.out))
  clear HM HV3 HO3 HA3
  have W1 : Hid (∀ wx, Calls Try.prog 16 #[.int .i64 4, .int .i64 1, .bool false] wx fun r w' => r = .returned (.int .i64 190) ∧ w' = wx) := hid (fun wx => wanted_t wx 4 1 false)
  have W2 : Hid (∀ wx, Calls Try.prog 16 #[.int .i64 4, .int .i64 2, .bool false] wx fun r w' => r = .returned (.int .i64 190) ∧ w' = wx) := hid (fun wx => wanted_t wx 4 2 false)
  have W3 : Hid (∀ wx, Calls Try.prog 16 #[.int .i64 4, .int .i64 3, .bool false] wx fun r w' => r = .returned (.int .i64 190) ∧ w' = wx) := hid (fun wx => wanted_t wx 4 3 false)
  have W4 : Hid (∀ wx, Calls Try.prog 16 #[.int .i64 4, .int .i64 4, .bool false] wx fun r w' => r = .returned (.int .i64 191) ∧ w' = wx) := hid (fun wx => wanted_t wx 4 4 false)
  have E1 : Hid (addR (new0 4) a 3 = (190, v1)) := hid (by have := HT.out.e1; rwa [show wn 4 1 false = 190 from by decide] at this)
  have E2 : Hid (putR v1 a [101] = (190, v2)) := hid (by have := HT.out.e2; rwa [show wn 4 2 false = 190 from by decide] at this)
  have E3 : Hid (switchR v2 a true = (190, v3)) := hid (by have := HT.out.e3; rwa [show wn 4 3 false = 190 from by decide] at this)
  have E4 : Hid (writeR v3 a [116] = (191, v4)) := hid (by have := HT.out.e4; rwa [show wn 4 4 false = 191 from by decide] at this)
  have E5 : Hid (takeR v4 [120] = (190, v5)) := hid (by have := HT.out.e5; rwa [show (if 4 = 2 then (0 : Int) else 190) = 190 from by decide] at this)
  go_upto_region 10 with fail
  have hd7 : decide (a ≤ 7) = false := by simp; omega
  simp only [hd7]
  clear hd7
  go_upto_region 12 with (first
    | (go_at_call 15; refine (Add_t HV4.out (new0_ok 4) E1.out).mono ?_; rintro _ w5 ⟨rfl, h', a'⟩; have HV5 := hid h'; have HA5 : Hid (Apart [] w w5) := hid (HA4.out.trans' a' (by intro y hy; simp at hy; rw [hy]; exact .inr HLV.out)); clear h' a')
    | (go_at_call 17; refine (Put_t (y := 101) (m := (1, 2)) rfl HV5.out HT.out.o1 E2.out).mono ?_; rintro _ w6 ⟨rfl, h', a'⟩; have HV6 := hid h'; have HA6 : Hid (Apart [] w w6) := hid (HA5.out.trans' a' (by intro y hy; simp at hy; rw [hy]; exact .inr HLV.out)); clear h' a')
    | (go_at_call 18; refine (Switch_t HV6.out HT.out.o2 E3.out).mono ?_; rintro _ w7 ⟨rfl, h', a'⟩; have HV7 := hid h'; have HA7 : Hid (Apart [] w w7) := hid (HA6.out.trans' a' (by intro y hy; simp at hy; rw [hy]; exact .inr HLV.out)); clear h' a')
    | (go_at_call 19; refine (Write_t (y := 116) (m := (1, 2)) rfl HV7.out HT.out.o3 E4.out).mono ?_; rintro _ w8 ⟨rfl, h', a'⟩; have HV8 := hid h'; have HA8 : Hid (Apart [] w w8) := hid (HA7.out.trans' a' (by intro y hy; simp at hy; rw [hy]; exact .inr HLV.out)); clear h' a')
    | (go_at_call 16; refine (W1.out _).mono ?_; rintro _ _ ⟨rfl, rfl⟩; clear W1)
    | (go_at_call 16; refine (W2.out _).mono ?_; rintro _ _ ⟨rfl, rfl⟩; clear W2)
    | (go_at_call 16; refine (W3.out _).mono ?_; rintro _ _ ⟨rfl, rfl⟩; clear W3)
    | (go_at_call 16; refine (W4.out _).mono ?_; rintro _ _ ⟨rfl, rfl⟩; clear W4))
  go_upto_region 14 with (first
    | (go_at_call 20; refine (Take_t (y := 120) (m := (1, 2)) rfl HV8.out HT.out.o4 E5.out).mono ?_; rintro _ w9 ⟨rfl, h', a'⟩; have HV9 := hid h'; have HA9 : Hid (Apart [] w w9) := hid (HA8.out.trans' a' (by intro y hy; simp at hy; rw [hy]; exact .inr HLV.out)); clear h' a'))
  have Esm : Hid (sumR v5 = 0) := hid (by have := HT.out.sm; simpa using this)
  have Eel : Hid ((elsR v5).length = 0) := hid (by have := HT.out.el; simpa using this)
  have Eon : Hid (onR v5 = false) := hid (by have := HT.out.on; simpa using this)
  have Etx : Hid (textR v5 = []) := hid (by have := HT.out.tx; simpa using this)
  have HS := hid (Sum_v HV9.out HT.out.o5)
  rw [Esm.out] at HS
  have HEl := hid (fun wx (h : Apart [] w9 wx) => Elements_t (HV9.out.kept0 h) HT.out.o5 Eel.out)
  have HOn := hid (fun wx (h : Apart [] w9 wx) => On_v (HV9.out.kept0 h) HT.out.o5)
  rw [Eon.out] at HOn
  have HTx := hid (fun wx (h : Apart [] w9 wx) => Text_t (HV9.out.kept0 h) HT.out.o5 Etx.out strB_nil)
  have htn := t_ne
  go_wp2_with (first
    | (go_at_call 21; refine HS.out.mono ?_; rintro _ wa ⟨rfl, aa⟩; have HAa := hid aa; clear aa)
    | (go_at_call 22; refine (HEl.out _ HAa.out).mono ?_; rintro _ wb ⟨p1, c1, rfl, ab⟩; have HAb := hid (HAa.out.trans ab); clear ab)
    | (go_at_call 23; refine (HOn.out _ HAb.out).mono ?_; rintro _ wc ⟨rfl, ac⟩; have HAc := hid (HAb.out.trans ac); clear ac)
    | (go_at_call 24; refine (HTx.out _ HAc.out).mono ?_; rintro _ wd ⟨sl, rfl, ad, hcv⟩; have HAd := hid (HAc.out.trans ad); clear ad))
  go_ret
  exact ⟨by first | rfl | simp, HA9.out.trans HAd.out⟩
set_option maxHeartbeats 4000000 in
set_option maxRecDepth 100000 in
theorem st4ng {w : World} (i : Nat) (hi : i < 8) (o : Nat) (h1 : 1 ≤ o) (h4 : o ≤ 4) (hno : o ≠ 4) : Calls Try.prog 4 #[.int .i64 4, .int .i64 (o : Int), .int .i64 (i : Int)] w fun r w' => r = .returned (.bool true) ∧ Apart [] w w' := by
  obtain ⟨v1, v2, v3, v4, v5, T⟩ := tab_good (k := 4) (by omega) (by omega) hi
  have hg0 : ((i : Nat) : Int) ≥ 0 := by omega
  have hg7 : ((i : Nat) : Int) ≤ 7 := by omega
  have HT := hid T
  clear T
  have HN1 : Hid (Calls Try.prog 9 #[.int .i64 4] w fun r w' => r = .returned (.tuple #[.pointer (some ⟨w.heap.size, 0, none⟩), .int .i64 0]) ∧ w' = w.alloc (.cells #[zb 4] 70)) := hid (new_ok w 4 (by omega) (by omega))
  have HVn := hid (Ho.new w 4 (by omega) (by omega))
  obtain ⟨V, HVe⟩ : ∃ V, Hid (V = w.heap.size) := ⟨_, hid rfl⟩
  obtain ⟨w1, Hw1⟩ : ∃ W, Hid (W = w.alloc (.cells #[zb 4] 70)) := ⟨_, hid rfl⟩
  have HA1 : Hid (Apart [] w w1) := by unfold Hid; rw [Hw1.out]; exact (Apart.refl [] w).alloc _
  rw [← HVe.out, ← Hw1.out] at HN1 HVn
  have HN2 : Hid (Calls Try.prog 9 #[.int .i64 (o : Int)] w1 fun r w' => r = .returned (.tuple #[.pointer (some ⟨w1.heap.size, 0, none⟩), .int .i64 0]) ∧ w' = w1.alloc (.cells #[zb o] 70)) := hid (new_ok w1 o (by omega) (by omega))
  have HOn := hid (Ho.new w1 o (by omega) (by omega))
  obtain ⟨O, HOe⟩ : ∃ V, Hid (V = w1.heap.size) := ⟨_, hid rfl⟩
  obtain ⟨w2, Hw2⟩ : ∃ W, Hid (W = w1.alloc (.cells #[zb o] 70)) := ⟨_, hid rfl⟩
  have HA2 : Hid (Apart [] w1 w2) := by unfold Hid; rw [Hw2.out]; exact (Apart.refl [] w1).alloc _
  rw [← HOe.out, ← Hw2.out] at HN2 HOn
  have HLV : Hid (w.heap.size ≤ V) := hid (by rw [HVe.out]; exact Nat.le_refl _)
  clear HVe Hw1 HOe Hw2
  have HAb := hid (able_ok w2)
  have h22 := fun (w : World) (C : Array Value) (n c : Nat) => Lib.run_convert_bytes_const (P := Try.prog) w 22 5 C n c Try.underlying22 Try.underlying5
  have hne : ((4 : Int) == (o : Int)) = false := by simp only [beq_eq_false_iff_ne, ne_eq]; omega
  have hne2 : ((4 : Int) != (o : Int)) = true := by simp only [bne_iff_ne, ne_eq]; omega
  go_enter Try.func4, Try.ntmps4
  go_upto_region 7 with (first
    | (go_at_call 9; refine HN1.out.mono ?_; rintro _ _ ⟨rfl, rfl⟩; clear HN1)
    | (go_at_call 9; refine HN2.out.mono ?_; rintro _ _ ⟨rfl, rfl⟩; clear HN2)
    | (go_at_call 7; refine HAb.out.mono ?_; rintro _ w3 ⟨rfl, a3⟩; have HA3 := hid a3; clear a3))
  have HV3 : Hid (Ho w3 V (new0 4)) := hid ((HVn.out.kept0 HA2.out).kept0 HA3.out)
  have HO3 : Hid (Ho w3 O (new0 o)) := hid (HOn.out.kept0 HA3.out)
  replace HA3 : Hid (Apart [] w w3) := hid ((HA1.out.trans HA2.out).trans HA3.out)
  clear HAb HVn HOn HA1 HA2
  have Hkd : Hid ((new0 4).kd ≠ (new0 o).kd) := by
    unfold Hid
    obtain rfl | rfl | rfl | rfl : o = 1 ∨ o = 2 ∨ o = 3 ∨ o = 4 := by omega
    all_goals first | exact absurd rfl hno | decide
  have HM := hid (fun wx (h : Apart [] w3 wx) => Merge_diff (HV3.out.kept0 h) (HO3.out.kept0 h) (new0_ok 4) Hkd.out)
  have HM1 := HM
  go_upto_region 9 with (first
    | (go_at_call 14; refine (HM1.out w3 (Apart.refl _ _)).mono ?_; rintro _ w3' ⟨rfl, a3'⟩; have HA3' := hid a3'; clear a3' HM1)
    | (go_at_call 14; refine (HM.out w3' HA3'.out).mono ?_; rintro _ w4 ⟨rfl, a4⟩; have HA4 := hid (HA3'.out.trans a4); clear a4))
  have HV4 := hid (HV3.out.kept0 HA4.out)
  replace HA4 : Hid (Apart [] w w4) := hid (HA3.out.trans HA4.out)
  clear HM HV3 HO3 HA3 Hkd
  have W1 : Hid (∀ wx, Calls Try.prog 16 #[.int .i64 4, .int .i64 1, .bool true] wx fun r w' => r = .returned (.int .i64 190) ∧ w' = wx) := hid (fun wx => wanted_t wx 4 1 true)
  have W2 : Hid (∀ wx, Calls Try.prog 16 #[.int .i64 4, .int .i64 2, .bool true] wx fun r w' => r = .returned (.int .i64 190) ∧ w' = wx) := hid (fun wx => wanted_t wx 4 2 true)
  have W3 : Hid (∀ wx, Calls Try.prog 16 #[.int .i64 4, .int .i64 3, .bool true] wx fun r w' => r = .returned (.int .i64 190) ∧ w' = wx) := hid (fun wx => wanted_t wx 4 3 true)
  have W4 : Hid (∀ wx, Calls Try.prog 16 #[.int .i64 4, .int .i64 4, .bool true] wx fun r w' => r = .returned (.int .i64 0) ∧ w' = wx) := hid (fun wx => wanted_t wx 4 4 true)
  have E1 : Hid (addR (new0 4) (i : Int) 3 = (190, v1)) := hid (by have := HT.out.e1; rwa [show wn 4 1 true = 190 from by decide] at this)
  have E2 : Hid (putR v1 (i : Int) [101] = (190, v2)) := hid (by have := HT.out.e2; rwa [show wn 4 2 true = 190 from by decide] at this)
  have E3 : Hid (switchR v2 (i : Int) true = (190, v3)) := hid (by have := HT.out.e3; rwa [show wn 4 3 true = 190 from by decide] at this)
  have E4 : Hid (writeR v3 (i : Int) [116] = (0, v4)) := hid (by have := HT.out.e4; rwa [show wn 4 4 true = 0 from by decide] at this)
  have E5 : Hid (takeR v4 [120] = (190, v5)) := hid (by have := HT.out.e5; rwa [show (if 4 = 2 then (0 : Int) else 190) = 190 from by decide] at this)
  go_upto_region 12 with (first
    | (go_at_call 15; refine (Add_t HV4.out (new0_ok 4) E1.out).mono ?_; rintro _ w5 ⟨rfl, h', a'⟩; have HV5 := hid h'; have HA5 : Hid (Apart [] w w5) := hid (HA4.out.trans' a' (by intro y hy; simp at hy; rw [hy]; exact .inr HLV.out)); clear h' a')
    | (go_at_call 17; refine (Put_t (y := 101) (m := (1, 2)) rfl HV5.out HT.out.o1 E2.out).mono ?_; rintro _ w6 ⟨rfl, h', a'⟩; have HV6 := hid h'; have HA6 : Hid (Apart [] w w6) := hid (HA5.out.trans' a' (by intro y hy; simp at hy; rw [hy]; exact .inr HLV.out)); clear h' a')
    | (go_at_call 18; refine (Switch_t HV6.out HT.out.o2 E3.out).mono ?_; rintro _ w7 ⟨rfl, h', a'⟩; have HV7 := hid h'; have HA7 : Hid (Apart [] w w7) := hid (HA6.out.trans' a' (by intro y hy; simp at hy; rw [hy]; exact .inr HLV.out)); clear h' a')
    | (go_at_call 19; refine (Write_t (y := 116) (m := (1, 2)) rfl HV7.out HT.out.o3 E4.out).mono ?_; rintro _ w8 ⟨rfl, h', a'⟩; have HV8 := hid h'; have HA8 : Hid (Apart [] w w8) := hid (HA7.out.trans' a' (by intro y hy; simp at hy; rw [hy]; exact .inr HLV.out)); clear h' a')
    | (go_at_call 16; refine (W1.out _).mono ?_; rintro _ _ ⟨rfl, rfl⟩; clear W1)
    | (go_at_call 16; refine (W2.out _).mono ?_; rintro _ _ ⟨rfl, rfl⟩; clear W2)
    | (go_at_call 16; refine (W3.out _).mono ?_; rintro _ _ ⟨rfl, rfl⟩; clear W3)
    | (go_at_call 16; refine (W4.out _).mono ?_; rintro _ _ ⟨rfl, rfl⟩; clear W4))
  go_upto_region 14 with (first
    | (go_at_call 20; refine (Take_t (y := 120) (m := (1, 2)) rfl HV8.out HT.out.o4 E5.out).mono ?_; rintro _ w9 ⟨rfl, h', a'⟩; have HV9 := hid h'; have HA9 : Hid (Apart [] w w9) := hid (HA8.out.trans' a' (by intro y hy; simp at hy; rw [hy]; exact .inr HLV.out)); clear h' a'))
  have Esm : Hid (sumR v5 = 0) := hid (by have := HT.out.sm; simpa using this)
  have Eel : Hid ((elsR v5).length = 0) := hid (by have := HT.out.el; simpa using this)
  have Eon : Hid (onR v5 = false) := hid (by have := HT.out.on; simpa using this)
  have Etx : Hid (textR v5 = [116]) := hid (by have := HT.out.tx; simpa using this)
  have HS := hid (Sum_v HV9.out HT.out.o5)
  rw [Esm.out] at HS
  have HEl := hid (fun wx (h : Apart [] w9 wx) => Elements_t (HV9.out.kept0 h) HT.out.o5 Eel.out)
  have HOn := hid (fun wx (h : Apart [] w9 wx) => On_v (HV9.out.kept0 h) HT.out.o5)
  rw [Eon.out] at HOn
  have HTx := hid (fun wx (h : Apart [] w9 wx) => Text_t (HV9.out.kept0 h) HT.out.o5 Etx.out strB_t)
  have htn := t_ne
  go_wp2_with (first
    | (go_at_call 21; refine HS.out.mono ?_; rintro _ wa ⟨rfl, aa⟩; have HAa := hid aa; clear aa)
    | (go_at_call 22; refine (HEl.out _ HAa.out).mono ?_; rintro _ wb ⟨p1, c1, rfl, ab⟩; have HAb := hid (HAa.out.trans ab); clear ab)
    | (go_at_call 23; refine (HOn.out _ HAb.out).mono ?_; rintro _ wc ⟨rfl, ac⟩; have HAc := hid (HAb.out.trans ac); clear ac)
    | (go_at_call 24; refine (HTx.out _ HAc.out).mono ?_; rintro _ wd ⟨sl, rfl, ad, hcv⟩; have HAd := hid (HAc.out.trans ad); clear ad))
  go_ret
  exact ⟨by first | rfl | simp, HA9.out.trans HAd.out⟩
set_option maxHeartbeats 4000000 in
set_option maxRecDepth 100000 in
theorem st4nl {w : World} (a : Int) (hb : a < 0) (o : Nat) (h1 : 1 ≤ o) (h4 : o ≤ 4) (hno : o ≠ 4) : Calls Try.prog 4 #[.int .i64 4, .int .i64 (o : Int), .int .i64 a] w fun r w' => r = .returned (.bool true) ∧ Apart [] w w' := by
  have ha : isA a = false := by simp [isA]; omega
  obtain ⟨v1, v2, v3, v4, v5, T⟩ : ∃ v1 v2 v3 v4 v5, Tab 4 false a v1 v2 v3 v4 v5 := ⟨_, _, _, _, _, tab_bad (by omega) (by omega) ha⟩
  have hg0 : ¬ a ≥ 0 := by omega
  clear ha
  have HT := hid T
  clear T
  have HN1 : Hid (Calls Try.prog 9 #[.int .i64 4] w fun r w' => r = .returned (.tuple #[.pointer (some ⟨w.heap.size, 0, none⟩), .int .i64 0]) ∧ w' = w.alloc (.cells #[zb 4] 70)) := hid (new_ok w 4 (by omega) (by omega))
  have HVn := hid (Ho.new w 4 (by omega) (by omega))
  obtain ⟨V, HVe⟩ : ∃ V, Hid (V = w.heap.size) := ⟨_, hid rfl⟩
  obtain ⟨w1, Hw1⟩ : ∃ W, Hid (W = w.alloc (.cells #[zb 4] 70)) := ⟨_, hid rfl⟩
  have HA1 : Hid (Apart [] w w1) := by unfold Hid; rw [Hw1.out]; exact (Apart.refl [] w).alloc _
  rw [← HVe.out, ← Hw1.out] at HN1 HVn
  have HN2 : Hid (Calls Try.prog 9 #[.int .i64 (o : Int)] w1 fun r w' => r = .returned (.tuple #[.pointer (some ⟨w1.heap.size, 0, none⟩), .int .i64 0]) ∧ w' = w1.alloc (.cells #[zb o] 70)) := hid (new_ok w1 o (by omega) (by omega))
  have HOn := hid (Ho.new w1 o (by omega) (by omega))
  obtain ⟨O, HOe⟩ : ∃ V, Hid (V = w1.heap.size) := ⟨_, hid rfl⟩
  obtain ⟨w2, Hw2⟩ : ∃ W, Hid (W = w1.alloc (.cells #[zb o] 70)) := ⟨_, hid rfl⟩
  have HA2 : Hid (Apart [] w1 w2) := by unfold Hid; rw [Hw2.out]; exact (Apart.refl [] w1).alloc _
  rw [← HOe.out, ← Hw2.out] at HN2 HOn
  have HLV : Hid (w.heap.size ≤ V) := hid (by rw [HVe.out]; exact Nat.le_refl _)
  clear HVe Hw1 HOe Hw2
  have HAb := hid (able_ok w2)
  have h22 := fun (w : World) (C : Array Value) (n c : Nat) => Lib.run_convert_bytes_const (P := Try.prog) w 22 5 C n c Try.underlying22 Try.underlying5
  have hne : ((4 : Int) == (o : Int)) = false := by simp only [beq_eq_false_iff_ne, ne_eq]; omega
  have hne2 : ((4 : Int) != (o : Int)) = true := by simp only [bne_iff_ne, ne_eq]; omega
  go_enter Try.func4, Try.ntmps4
  go_upto_region 7 with (first
    | (go_at_call 9; refine HN1.out.mono ?_; rintro _ _ ⟨rfl, rfl⟩; clear HN1)
    | (go_at_call 9; refine HN2.out.mono ?_; rintro _ _ ⟨rfl, rfl⟩; clear HN2)
    | (go_at_call 7; refine HAb.out.mono ?_; rintro _ w3 ⟨rfl, a3⟩; have HA3 := hid a3; clear a3))
  have HV3 : Hid (Ho w3 V (new0 4)) := hid ((HVn.out.kept0 HA2.out).kept0 HA3.out)
  have HO3 : Hid (Ho w3 O (new0 o)) := hid (HOn.out.kept0 HA3.out)
  replace HA3 : Hid (Apart [] w w3) := hid ((HA1.out.trans HA2.out).trans HA3.out)
  clear HAb HVn HOn HA1 HA2
  have Hkd : Hid ((new0 4).kd ≠ (new0 o).kd) := by
    unfold Hid
    obtain rfl | rfl | rfl | rfl : o = 1 ∨ o = 2 ∨ o = 3 ∨ o = 4 := by omega
    all_goals first | exact absurd rfl hno | decide
  have HM := hid (fun wx (h : Apart [] w3 wx) => Merge_diff (HV3.out.kept0 h) (HO3.out.kept0 h) (new0_ok 4) Hkd.out)
  have HM1 := HM
  go_upto_region 9 with (first
    | (go_at_call 14; refine (HM1.out w3 (Apart.refl _ _)).mono ?_; rintro _ w3' ⟨rfl, a3'⟩; have HA3' := hid a3'; clear a3' HM1)
    | (go_at_call 14; refine (HM.out w3' HA3'.out).mono ?_; rintro _ w4 ⟨rfl, a4⟩; have HA4 := hid (HA3'.out.trans a4); clear a4))
  have HV4 := hid (HV3.out.kept0 HA4.out)
  replace HA4 : Hid (Apart [] w w4) := hid (HA3.out.trans HA4.out)
  clear HM HV3 HO3 HA3 Hkd
  have W1 : Hid (∀ wx, Calls Try.prog 16 #[.int .i64 4, .int .i64 1, .bool false] wx fun r w' => r = .returned (.int .i64 190) ∧ w' = wx) := hid (fun wx => wanted_t wx 4 1 false)
  have W2 : Hid (∀ wx, Calls Try.prog 16 #[.int .i64 4, .int .i64 2, .bool false] wx fun r w' => r = .returned (.int .i64 190) ∧ w' = wx) := hid (fun wx => wanted_t wx 4 2 false)
  have W3 : Hid (∀ wx, Calls Try.prog 16 #[.int .i64 4, .int .i64 3, .bool false] wx fun r w' => r = .returned (.int .i64 190) ∧ w' = wx) := hid (fun wx => wanted_t wx 4 3 false)
  have W4 : Hid (∀ wx, Calls Try.prog 16 #[.int .i64 4, .int .i64 4, .bool false] wx fun r w' => r = .returned (.int .i64 191) ∧ w' = wx) := hid (fun wx => wanted_t wx 4 4 false)
  have E1 : Hid (addR (new0 4) a 3 = (190, v1)) := hid (by have := HT.out.e1; rwa [show wn 4 1 false = 190 from by decide] at this)
  have E2 : Hid (putR v1 a [101] = (190, v2)) := hid (by have := HT.out.e2; rwa [show wn 4 2 false = 190 from by decide] at this)
  have E3 : Hid (switchR v2 a true = (190, v3)) := hid (by have := HT.out.e3; rwa [show wn 4 3 false = 190 from by decide] at this)
  have E4 : Hid (writeR v3 a [116] = (191, v4)) := hid (by have := HT.out.e4; rwa [show wn 4 4 false = 191 from by decide] at this)
  have E5 : Hid (takeR v4 [120] = (190, v5)) := hid (by have := HT.out.e5; rwa [show (if 4 = 2 then (0 : Int) else 190) = 190 from by decide] at this)
  go_upto_region 12 with (first
    | (go_at_call 15; refine (Add_t HV4.out (new0_ok 4) E1.out).mono ?_; rintro _ w5 ⟨rfl, h', a'⟩; have HV5 := hid h'; have HA5 : Hid (Apart [] w w5) := hid (HA4.out.trans' a' (by intro y hy; simp at hy; rw [hy]; exact .inr HLV.out)); clear h' a')
    | (go_at_call 17; refine (Put_t (y := 101) (m := (1, 2)) rfl HV5.out HT.out.o1 E2.out).mono ?_; rintro _ w6 ⟨rfl, h', a'⟩; have HV6 := hid h'; have HA6 : Hid (Apart [] w w6) := hid (HA5.out.trans' a' (by intro y hy; simp at hy; rw [hy]; exact .inr HLV.out)); clear h' a')
    | (go_at_call 18; refine (Switch_t HV6.out HT.out.o2 E3.out).mono ?_; rintro _ w7 ⟨rfl, h', a'⟩; have HV7 := hid h'; have HA7 : Hid (Apart [] w w7) := hid (HA6.out.trans' a' (by intro y hy; simp at hy; rw [hy]; exact .inr HLV.out)); clear h' a')
    | (go_at_call 19; refine (Write_t (y := 116) (m := (1, 2)) rfl HV7.out HT.out.o3 E4.out).mono ?_; rintro _ w8 ⟨rfl, h', a'⟩; have HV8 := hid h'; have HA8 : Hid (Apart [] w w8) := hid (HA7.out.trans' a' (by intro y hy; simp at hy; rw [hy]; exact .inr HLV.out)); clear h' a')
    | (go_at_call 16; refine (W1.out _).mono ?_; rintro _ _ ⟨rfl, rfl⟩; clear W1)
    | (go_at_call 16; refine (W2.out _).mono ?_; rintro _ _ ⟨rfl, rfl⟩; clear W2)
    | (go_at_call 16; refine (W3.out _).mono ?_; rintro _ _ ⟨rfl, rfl⟩; clear W3)
    | (go_at_call 16; refine (W4.out _).mono ?_; rintro _ _ ⟨rfl, rfl⟩; clear W4))
  go_upto_region 14 with (first
    | (go_at_call 20; refine (Take_t (y := 120) (m := (1, 2)) rfl HV8.out HT.out.o4 E5.out).mono ?_; rintro _ w9 ⟨rfl, h', a'⟩; have HV9 := hid h'; have HA9 : Hid (Apart [] w w9) := hid (HA8.out.trans' a' (by intro y hy; simp at hy; rw [hy]; exact .inr HLV.out)); clear h' a'))
  have Esm : Hid (sumR v5 = 0) := hid (by have := HT.out.sm; simpa using this)
  have Eel : Hid ((elsR v5).length = 0) := hid (by have := HT.out.el; simpa using this)
  have Eon : Hid (onR v5 = false) := hid (by have := HT.out.on; simpa using this)
  have Etx : Hid (textR v5 = []) := hid (by have := HT.out.tx; simpa using this)
  have HS := hid (Sum_v HV9.out HT.out.o5)
  rw [Esm.out] at HS
  have HEl := hid (fun wx (h : Apart [] w9 wx) => Elements_t (HV9.out.kept0 h) HT.out.o5 Eel.out)
  have HOn := hid (fun wx (h : Apart [] w9 wx) => On_v (HV9.out.kept0 h) HT.out.o5)
  rw [Eon.out] at HOn
  have HTx := hid (fun wx (h : Apart [] w9 wx) => Text_t (HV9.out.kept0 h) HT.out.o5 Etx.out strB_nil)
  have htn := t_ne
  go_wp2_with (first
    | (go_at_call 21; refine HS.out.mono ?_; rintro _ wa ⟨rfl, aa⟩; have HAa := hid aa; clear aa)
    | (go_at_call 22; refine (HEl.out _ HAa.out).mono ?_; rintro _ wb ⟨p1, c1, rfl, ab⟩; have HAb := hid (HAa.out.trans ab); clear ab)
    | (go_at_call 23; refine (HOn.out _ HAb.out).mono ?_; rintro _ wc ⟨rfl, ac⟩; have HAc := hid (HAb.out.trans ac); clear ac)
    | (go_at_call 24; refine (HTx.out _ HAc.out).mono ?_; rintro _ wd ⟨sl, rfl, ad, hcv⟩; have HAd := hid (HAc.out.trans ad); clear ad))
  go_ret
  exact ⟨by first | rfl | simp, HA9.out.trans HAd.out⟩
set_option maxHeartbeats 4000000 in
set_option maxRecDepth 100000 in
theorem st4nh {w : World} (a : Int) (hb : 7 < a) (o : Nat) (h1 : 1 ≤ o) (h4 : o ≤ 4) (hno : o ≠ 4) : Calls Try.prog 4 #[.int .i64 4, .int .i64 (o : Int), .int .i64 a] w fun r w' => r = .returned (.bool true) ∧ Apart [] w w' := by
  have ha : isA a = false := by simp [isA]; omega
  obtain ⟨v1, v2, v3, v4, v5, T⟩ : ∃ v1 v2 v3 v4 v5, Tab 4 false a v1 v2 v3 v4 v5 := ⟨_, _, _, _, _, tab_bad (by omega) (by omega) ha⟩
  have hg0 : a ≥ 0 := by omega
  have hg7 : ¬ a ≤ 7 := by omega
  clear ha hb
  have HT := hid T
  clear T
  have HN1 : Hid (Calls Try.prog 9 #[.int .i64 4] w fun r w' => r = .returned (.tuple #[.pointer (some ⟨w.heap.size, 0, none⟩), .int .i64 0]) ∧ w' = w.alloc (.cells #[zb 4] 70)) := hid (new_ok w 4 (by omega) (by omega))
  have HVn := hid (Ho.new w 4 (by omega) (by omega))
  obtain ⟨V, HVe⟩ : ∃ V, Hid (V = w.heap.size) := ⟨_, hid rfl⟩
  obtain ⟨w1, Hw1⟩ : ∃ W, Hid (W = w.alloc (.cells #[zb 4] 70)) := ⟨_, hid rfl⟩
  have HA1 : Hid (Apart [] w w1) := by unfold Hid; rw [Hw1.out]; exact (Apart.refl [] w).alloc _
  rw [← HVe.out, ← Hw1.out] at HN1 HVn
  have HN2 : Hid (Calls Try.prog 9 #[.int .i64 (o : Int)] w1 fun r w' => r = .returned (.tuple #[.pointer (some ⟨w1.heap.size, 0, none⟩), .int .i64 0]) ∧ w' = w1.alloc (.cells #[zb o] 70)) := hid (new_ok w1 o (by omega) (by omega))
  have HOn := hid (Ho.new w1 o (by omega) (by omega))
  obtain ⟨O, HOe⟩ : ∃ V, Hid (V = w1.heap.size) := ⟨_, hid rfl⟩
  obtain ⟨w2, Hw2⟩ : ∃ W, Hid (W = w1.alloc (.cells #[zb o] 70)) := ⟨_, hid rfl⟩
  have HA2 : Hid (Apart [] w1 w2) := by unfold Hid; rw [Hw2.out]; exact (Apart.refl [] w1).alloc _
  rw [← HOe.out, ← Hw2.out] at HN2 HOn
  have HLV : Hid (w.heap.size ≤ V) := hid (by rw [HVe.out]; exact Nat.le_refl _)
  clear HVe Hw1 HOe Hw2
  have HAb := hid (able_ok w2)
  have h22 := fun (w : World) (C : Array Value) (n c : Nat) => Lib.run_convert_bytes_const (P := Try.prog) w 22 5 C n c Try.underlying22 Try.underlying5
  have hne : ((4 : Int) == (o : Int)) = false := by simp only [beq_eq_false_iff_ne, ne_eq]; omega
  have hne2 : ((4 : Int) != (o : Int)) = true := by simp only [bne_iff_ne, ne_eq]; omega
  go_enter Try.func4, Try.ntmps4
  go_upto_region 7 with (first
    | (go_at_call 9; refine HN1.out.mono ?_; rintro _ _ ⟨rfl, rfl⟩; clear HN1)
    | (go_at_call 9; refine HN2.out.mono ?_; rintro _ _ ⟨rfl, rfl⟩; clear HN2)
    | (go_at_call 7; refine HAb.out.mono ?_; rintro _ w3 ⟨rfl, a3⟩; have HA3 := hid a3; clear a3))
  have HV3 : Hid (Ho w3 V (new0 4)) := hid ((HVn.out.kept0 HA2.out).kept0 HA3.out)
  have HO3 : Hid (Ho w3 O (new0 o)) := hid (HOn.out.kept0 HA3.out)
  replace HA3 : Hid (Apart [] w w3) := hid ((HA1.out.trans HA2.out).trans HA3.out)
  clear HAb HVn HOn HA1 HA2
  have Hkd : Hid ((new0 4).kd ≠ (new0 o).kd) := by
    unfold Hid
    obtain rfl | rfl | rfl | rfl : o = 1 ∨ o = 2 ∨ o = 3 ∨ o = 4 := by omega
    all_goals first | exact absurd rfl hno | decide
  have HM := hid (fun wx (h : Apart [] w3 wx) => Merge_diff (HV3.out.kept0 h) (HO3.out.kept0 h) (new0_ok 4) Hkd.out)
  have HM1 := HM
  go_upto_region 9 with (first
    | (go_at_call 14; refine (HM1.out w3 (Apart.refl _ _)).mono ?_; rintro _ w3' ⟨rfl, a3'⟩; have HA3' := hid a3'; clear a3' HM1)
    | (go_at_call 14; refine (HM.out w3' HA3'.out).mono ?_; rintro _ w4 ⟨rfl, a4⟩; have HA4 := hid (HA3'.out.trans a4); clear a4))
  have HV4 := hid (HV3.out.kept0 HA4.out)
  replace HA4 : Hid (Apart [] w w4) := hid (HA3.out.trans HA4.out)
  clear HM HV3 HO3 HA3 Hkd
  have W1 : Hid (∀ wx, Calls Try.prog 16 #[.int .i64 4, .int .i64 1, .bool false] wx fun r w' => r = .returned (.int .i64 190) ∧ w' = wx) := hid (fun wx => wanted_t wx 4 1 false)
  have W2 : Hid (∀ wx, Calls Try.prog 16 #[.int .i64 4, .int .i64 2, .bool false] wx fun r w' => r = .returned (.int .i64 190) ∧ w' = wx) := hid (fun wx => wanted_t wx 4 2 false)
  have W3 : Hid (∀ wx, Calls Try.prog 16 #[.int .i64 4, .int .i64 3, .bool false] wx fun r w' => r = .returned (.int .i64 190) ∧ w' = wx) := hid (fun wx => wanted_t wx 4 3 false)
  have W4 : Hid (∀ wx, Calls Try.prog 16 #[.int .i64 4, .int .i64 4, .bool false] wx fun r w' => r = .returned (.int .i64 191) ∧ w' = wx) := hid (fun wx => wanted_t wx 4 4 false)
  have E1 : Hid (addR (new0 4) a 3 = (190, v1)) := hid (by have := HT.out.e1; rwa [show wn 4 1 false = 190 from by decide] at this)
  have E2 : Hid (putR v1 a [101] = (190, v2)) := hid (by have := HT.out.e2; rwa [show wn 4 2 false = 190 from by decide] at this)
  have E3 : Hid (switchR v2 a true = (190, v3)) := hid (by have := HT.out.e3; rwa [show wn 4 3 false = 190 from by decide] at this)
  have E4 : Hid (writeR v3 a [116] = (191, v4)) := hid (by have := HT.out.e4; rwa [show wn 4 4 false = 191 from by decide] at this)
  have E5 : Hid (takeR v4 [120] = (190, v5)) := hid (by have := HT.out.e5; rwa [show (if 4 = 2 then (0 : Int) else 190) = 190 from by decide] at this)
  go_upto_region 10 with fail
  have hd7 : decide (a ≤ 7) = false := by simp; omega
  simp only [hd7]
  clear hd7
  go_upto_region 12 with (first
    | (go_at_call 15; refine (Add_t HV4.out (new0_ok 4) E1.out).mono ?_; rintro _ w5 ⟨rfl, h', a'⟩; have HV5 := hid h'; have HA5 : Hid (Apart [] w w5) := hid (HA4.out.trans' a' (by intro y hy; simp at hy; rw [hy]; exact .inr HLV.out)); clear h' a')
    | (go_at_call 17; refine (Put_t (y := 101) (m := (1, 2)) rfl HV5.out HT.out.o1 E2.out).mono ?_; rintro _ w6 ⟨rfl, h', a'⟩; have HV6 := hid h'; have HA6 : Hid (Apart [] w w6) := hid (HA5.out.trans' a' (by intro y hy; simp at hy; rw [hy]; exact .inr HLV.out)); clear h' a')
    | (go_at_call 18; refine (Switch_t HV6.out HT.out.o2 E3.out).mono ?_; rintro _ w7 ⟨rfl, h', a'⟩; have HV7 := hid h'; have HA7 : Hid (Apart [] w w7) := hid (HA6.out.trans' a' (by intro y hy; simp at hy; rw [hy]; exact .inr HLV.out)); clear h' a')
    | (go_at_call 19; refine (Write_t (y := 116) (m := (1, 2)) rfl HV7.out HT.out.o3 E4.out).mono ?_; rintro _ w8 ⟨rfl, h', a'⟩; have HV8 := hid h'; have HA8 : Hid (Apart [] w w8) := hid (HA7.out.trans' a' (by intro y hy; simp at hy; rw [hy]; exact .inr HLV.out)); clear h' a')
    | (go_at_call 16; refine (W1.out _).mono ?_; rintro _ _ ⟨rfl, rfl⟩; clear W1)
    | (go_at_call 16; refine (W2.out _).mono ?_; rintro _ _ ⟨rfl, rfl⟩; clear W2)
    | (go_at_call 16; refine (W3.out _).mono ?_; rintro _ _ ⟨rfl, rfl⟩; clear W3)
    | (go_at_call 16; refine (W4.out _).mono ?_; rintro _ _ ⟨rfl, rfl⟩; clear W4))
  go_upto_region 14 with (first
    | (go_at_call 20; refine (Take_t (y := 120) (m := (1, 2)) rfl HV8.out HT.out.o4 E5.out).mono ?_; rintro _ w9 ⟨rfl, h', a'⟩; have HV9 := hid h'; have HA9 : Hid (Apart [] w w9) := hid (HA8.out.trans' a' (by intro y hy; simp at hy; rw [hy]; exact .inr HLV.out)); clear h' a'))
  have Esm : Hid (sumR v5 = 0) := hid (by have := HT.out.sm; simpa using this)
  have Eel : Hid ((elsR v5).length = 0) := hid (by have := HT.out.el; simpa using this)
  have Eon : Hid (onR v5 = false) := hid (by have := HT.out.on; simpa using this)
  have Etx : Hid (textR v5 = []) := hid (by have := HT.out.tx; simpa using this)
  have HS := hid (Sum_v HV9.out HT.out.o5)
  rw [Esm.out] at HS
  have HEl := hid (fun wx (h : Apart [] w9 wx) => Elements_t (HV9.out.kept0 h) HT.out.o5 Eel.out)
  have HOn := hid (fun wx (h : Apart [] w9 wx) => On_v (HV9.out.kept0 h) HT.out.o5)
  rw [Eon.out] at HOn
  have HTx := hid (fun wx (h : Apart [] w9 wx) => Text_t (HV9.out.kept0 h) HT.out.o5 Etx.out strB_nil)
  have htn := t_ne
  go_wp2_with (first
    | (go_at_call 21; refine HS.out.mono ?_; rintro _ wa ⟨rfl, aa⟩; have HAa := hid aa; clear aa)
    | (go_at_call 22; refine (HEl.out _ HAa.out).mono ?_; rintro _ wb ⟨p1, c1, rfl, ab⟩; have HAb := hid (HAa.out.trans ab); clear ab)
    | (go_at_call 23; refine (HOn.out _ HAb.out).mono ?_; rintro _ wc ⟨rfl, ac⟩; have HAc := hid (HAb.out.trans ac); clear ac)
    | (go_at_call 24; refine (HTx.out _ HAc.out).mono ?_; rintro _ wd ⟨sl, rfl, ad, hcv⟩; have HAd := hid (HAc.out.trans ad); clear ad))
  go_ret
  exact ⟨by first | rfl | simp, HA9.out.trans HAd.out⟩
end Go.Proofs.Ytdbeeikjngnnnaa.ty
