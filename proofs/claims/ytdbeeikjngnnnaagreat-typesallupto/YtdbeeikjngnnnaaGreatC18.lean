import Derived.Test.YtdbeeikjngnnnaaGreatC17
namespace Go.Proofs.YtdbeeikjngnnnaaGreat.ty
open Go.ChangeShapes Go.WideShapes Go.ChangeAt Go.RowKit
set_option linter.unusedVariables false
set_option linter.unusedSimpArgs false
set_option maxRecDepth 100000
set_option maxHeartbeats 8000000
theorem fform_ok {w : World} {c g : List Int} (hc : c.length = 8) (hg : g.length = 8) : Calls Tryz.prog 128 #[.agg (rv (c ++ g)).toArray] w fun r w' => ∃ s', r = .returned (.slice s'.p s'.n s'.c) ∧ Bf w w' s' (3 :: (rowB c 2 ++ rowB g 2)) := by
 have Hc := hid hc
 have Hg := hid hg
 clear hc hg
 have HA := hid (Apart.refl [] w)
 go_enter Tryz.func128, Tryz.ntmps128
 go_upto_region 1 with fail
 obtain ⟨X, HXX⟩ : ∃ X, Hid (X = w.heap.size) := ⟨_, rfl⟩
 obtain ⟨w1, hw1⟩ : ∃ W, W = w.alloc (.cells (rv (c ++ g)).toArray 106) := ⟨_, rfl⟩
 have HSw1 : Hid (Apart [] w w1) := hid (zM hw1)
 have HBX : Hid (w1.heap[X]? = some (.cells (rv (c ++ g)).toArray 106 (0, 0))) := hid (zN HXX.out hw1)
 have HLX : Hid (w.heap.size ≤ X) := by unfold Hid; rw [HXX.out]; exact Nat.le_refl _
 replace HA := hid (HA.out.trans HSw1.out)
 rw [← hw1, ← HXX.out]
 clear hw1 HXX
 have HB1 : Hid (Bf w (w1.alloc (.cells #[.int .u8 3] 5)) ⟨some ⟨w1.heap.size, 0, none⟩, 1, 1⟩ [3]) := by
  unfold Hid
  refine ⟨⟨⟨rfl, .inr ⟨w1.heap.size, 1, _, rfl, Nat.zero_le _, heap_alloc_new w1 _, Nat.le_refl _, by unfold maxLen; omega, rfl, rfl⟩⟩, fun k hk => by simp [Sl.v, Value.ownBlock] at hk; rw [← hk]; exact HA.out.size, HA.out.alloc _⟩, rfl⟩
 have HC := hid (appRow HB1.out (by simp) Hc.out (width := 2) (by omega))
 have HBX2 : Hid ((w1.alloc (.cells #[.int .u8 3] 5)).heap[X]? = some (.cells (rv (c ++ g)).toArray 106 (0, 0))) := hid (keep0 ((Apart.refl [] w1).alloc _) HBX.out)
 go_upto_region 2 with (first
  | refine wpL_val rfl (.agg (rv c).toArray) (ex_load _ rfl X 0 _ rfl (rg0 HBX2.out) (by rw [rv_len, Hc.out])) ?_
  | (go_at_call 107; refine HC.out.mono ?_; rintro _ w2 ⟨s2, rfl, b2, t2⟩; have HB2 := hid b2; have HT2 := hid t2; clear b2 t2; clear HC))
 have HBX3 := hid (HT2.out.block HBX2.out (by simp))
 have HC2 := hid (appRow HB2.out (by have := rowB_len c; simp only [List.cons_append, List.nil_append, List.length_cons]; omega) Hg.out (width := 2) (by omega))
 clear HB1 HBX HBX2 HT2
 go_wp2_with (first
  | refine wpL_val rfl (.agg (rv g).toArray) (ex_load _ rfl X 8 _ rfl (rg8 Hc.out HBX3.out) (by rw [rv_len, Hg.out])) ?_
  | (go_at_call 107; refine HC2.out.mono ?_; rintro _ w3 ⟨s3, rfl, b3, t3⟩; have HB3 := hid b3; clear b3 t3))
 go_ret
 exact ⟨s3, rfl, by simpa using HB3.out⟩
theorem gform_ok {w : World} {n a : Nat} {t : ByteArray} (ht : t.size ≤ 1000) : Calls Tryz.prog 133 #[.agg (ty.rg (n : Int) (a : Int) t)] w fun r w' => ∃ s', r = .returned (.slice s'.p s'.n s'.c) ∧ Bf w w' s' (4 :: (leB n 3 ++ (a % 256) :: bsk t)) := by
 have Ht := hid ht
 clear ht
 unfold ty.rg
 have HA := hid (Apart.refl [] w)
 go_enter Tryz.func133, Tryz.ntmps133
 go_upto_region 1 with fail
 obtain ⟨X, HXX⟩ : ∃ X, Hid (X = w.heap.size) := ⟨_, rfl⟩
 obtain ⟨w1, hw1⟩ : ∃ W, W = w.alloc (.cells #[.int .i64 (n : Int), .int .i64 (a : Int), .string t] 108) := ⟨_, rfl⟩
 have HSw1 : Hid (Apart [] w w1) := hid (zM hw1)
 have HBX : Hid (w1.heap[X]? = some (.cells #[.int .i64 (n : Int), .int .i64 (a : Int), .string t] 108 (0, 0))) := hid (zN HXX.out hw1)
 have HLX : Hid (w.heap.size ≤ X) := by unfold Hid; rw [HXX.out]; exact Nat.le_refl _
 replace HA := hid (HA.out.trans HSw1.out)
 rw [← hw1, ← HXX.out]
 clear hw1 HXX
 have HB1 : Hid (Bf w (w1.alloc (.cells #[.int .u8 4] 5)) ⟨some ⟨w1.heap.size, 0, none⟩, 1, 1⟩ [4]) := by
  unfold Hid
  refine ⟨⟨⟨rfl, .inr ⟨w1.heap.size, 1, _, rfl, Nat.zero_le _, heap_alloc_new w1 _, Nat.le_refl _, by unfold maxLen; omega, rfl, rfl⟩⟩, fun k hk => by simp [Sl.v, Value.ownBlock] at hk; rw [← hk]; exact HA.out.size, HA.out.alloc _⟩, rfl⟩
 have HC := hid (appN HB1.out (by simp) (n := n) (width := 3) (by omega))
 have HBX2 : Hid ((w1.alloc (.cells #[.int .u8 4] 5)).heap[X]? = some (.cells #[.int .i64 (n : Int), .int .i64 (a : Int), .string t] 108 (0, 0))) := hid (keep0 ((Apart.refl [] w1).alloc _) HBX.out)
 have z0 : (w1.alloc (.cells #[.int .u8 4] 5)).cell? ⟨X, 0, none⟩ = some (.int .i64 (n : Int)) := zK HBX2.out
 go_upto_region 2 with (go_at_call 110; refine HC.out.mono ?_; rintro _ w2 ⟨s2, rfl, b2, t2⟩; have HB2 := hid b2; have HT2 := hid t2; clear b2 t2; clear HC)
 have HBX3 := hid (HT2.out.block HBX2.out (by simp))
 have z1 : w2.cell? ⟨X, 1, none⟩ = some (.int .i64 (a : Int)) := zK HBX3.out
 obtain ⟨s3, w3, hrun, b3, t3⟩ := app_byte HB2.out (a % 256) (by simp [leB_len])
 have HR := hid hrun
 have HB3 := hid b3
 have HBX4 := hid (t3.block HBX3.out (by simp))
 clear hrun b3 t3 HB1 HBX HBX2 HT2 z0 HB2
 go_upto_region 3 with (refine wpList_append3 rfl _ _ 29 rfl _ _ rfl rfl (.slice s3.p s3.n s3.c) w3 HR.out ?_)
 have z2 : w3.cell? ⟨X, 2, none⟩ = some (.string t) := zK HBX4.out
 obtain ⟨s4, w4, hrun, b4, t4⟩ := app_str HB3.out t (by have := Ht.out; simp [leB_len]; omega)
 have HR4 := hid hrun
 have HB4 := hid b4
 clear hrun b4 t4 HR z1 HBX3
 go_wp2_with (at_builtin; refine wpList_app2 rfl _ _ 29 9 rfl _ _ rfl rfl (.slice s4.p s4.n s4.c) w4 HR4.out ?_)
 go_ret
 exact ⟨s4, rfl, by simpa using HB4.out⟩
theorem fread_ok {wB w : World} {R : Nat} {s : Sl} {us : List Nat} (h : Rr wB w R s us) (hl : us.length ≤ 1000000) : Calls Tryz.prog 130 #[.agg (rv (zr ++ zr)).toArray, .pointer (some ⟨R, 0, none⟩)] w fun r w' => r = .returned (.iface 106 (.agg (rv ((rowR (us.drop 1) 2).1 ++ (rowR (rowR (us.drop 1) 2).2 2).1)).toArray)) ∧ Apart [R] w w' := by
 have HWB : Hid (wB.heap.size ≤ w.heap.size) := hid h.ap.size
 have HR := hid h
 have Hl := hid hl
 have hRl := lt_of_heap h.blk
 clear h hl
 obtain ⟨r1, Hr1⟩ : ∃ r, Hid (r = rowR (us.drop 1) 2) := ⟨_, hid rfl⟩
 rw [← Hr1.out]
 obtain ⟨r2, Hr2⟩ : ∃ r, Hid (r = rowR r1.2 2) := ⟨_, hid rfl⟩
 rw [← Hr2.out]
 have H1l : Hid (r1.1.length = 8) := hid (by rw [Hr1.out]; exact rwI_len _ _ _ _)
 have H2l : Hid (r2.1.length = 8) := hid (by rw [Hr2.out]; exact rwI_len _ _ _ _)
 have Hln : Hid (r1.2.length ≤ 1000000) := hid (by rw [Hr1.out]; have h1 := rwI_left (leV ((us.drop 1).take 1)) 2 ((us.drop 1).drop 1) 8; have h2 := Hl.out; simp only [List.length_drop] at h1; exact Nat.le_trans h1 (by omega))
 go_enter Tryz.func130, Tryz.ntmps130
 go_upto_region 1 with fail
 obtain ⟨X, HXX⟩ : ∃ X, Hid (X = w.heap.size) := ⟨_, rfl⟩
 obtain ⟨w1, hw1⟩ : ∃ W, W = w.alloc (.cells (rv (zr ++ zr)).toArray 106) := ⟨_, rfl⟩
 have HSw1 : Hid (Apart [] w w1) := hid (zM hw1)
 have HBX : Hid (w1.heap[X]? = some (.cells (rv (zr ++ zr)).toArray 106 (0, 0))) := hid (zN HXX.out hw1)
 have HLX : Hid (w.heap.size ≤ X) := by unfold Hid; rw [HXX.out]; exact Nat.le_refl _
 have HN : Hid (X ≠ R) := hid (by have := HLX.out; omega)
 rw [← hw1, ← HXX.out]
 clear hw1 HXX hRl
 have HC := hid (next_ok (HR.out.kept0 HSw1.out) Hl.out 1 (by omega))
 go_upto_region 2 with (go_at_call 108; refine HC.out.mono ?_; rintro _ w2 ⟨a2, rfl, p2, b2, q2, s2⟩; have HR2 := hid q2; have HS2 := hid s2; clear p2 q2 s2 HC)
 have HBX2 := hid (keepB HS2.out HBX.out HN.out)
 have HC := hid (row_ok HR2.out (by have := Hl.out; rw [List.length_drop]; omega) 2 (by omega))
 rw [← Hr1.out] at HC
 clear HBX HR
 go_upto_region 3 with (first
  | (go_at_call 109; refine HC.out.mono ?_; rintro _ w3 ⟨rfl, ⟨b3, q3⟩, s3⟩; have HR3 := hid q3; have HS3 := hid s3; have HBX3 := hid (keepB HS3.out HBX2.out HN.out); clear q3 s3 HC)
  | (refine wpList_store_mid rfl 99 _ _ rfl X 0 (rv r1.1).toArray rfl rfl (there_of HBX3.out 0 _ (by simp [rv_len, H1l.out, zr])) (by rw [size86]; simp [rv_len, H1l.out]) (all_oneCell_toArray (rv_one _)) ?_
     simp only [List.toList_toArray]
     have HBX4 := hid (set0_row (u := zr) rfl H1l.out HBX3.out)
     have HS4 := hid (apart_setCells w3 X (rv r1.1) 0)
     generalize w3.setCells X 0 (rv r1.1) = w4 at *
     clear HBX3))
 have HR4 : Hid (Rr wB w4 R b3 r1.2) := hid (by
  have h3 := HR3.out
  have h5 : wB.heap.size ≤ X := Nat.le_trans HWB.out HLX.out
  exact ⟨keepB HS4.out h3.blk HN.out.symm, h3.new, h3.ap.trans' HS4.out (by intro y hy; simp at hy; rw [hy]; exact .inr h5), h3.rd, h3.len, h3.cap, h3.ok, h3.u8⟩)
 have HC := hid (row_ok HR4.out Hln.out 2 (by omega))
 rw [← Hr2.out] at HC
 clear HR3 HBX2
 go_wp2_with (first
  | (go_at_call 109; refine HC.out.mono ?_; rintro _ w5 ⟨rfl, ⟨b5, q5⟩, s5⟩; have HS5 := hid s5; have HBX5 := hid (keepB HS5.out HBX4.out HN.out); clear q5 s5 HC)
  | (refine wpList_store_mid rfl 99 _ _ rfl X 8 (rv r2.1).toArray rfl rfl (there_of HBX5.out 8 _ (by simp [rv_len, H1l.out, H2l.out, zr])) (by rw [size86]; simp [rv_len, H2l.out]) (all_oneCell_toArray (rv_one _)) ?_
     simp only [List.toList_toArray]
     have HBX6 := hid (set8_row H1l.out (d := zr) rfl H2l.out HBX5.out)
     have HS6 := hid (apart_setCells w5 X (rv r2.1) 8)
     generalize w5.setCells X 8 (rv r2.1) = w6 at *
     clear HBX5)
  | refine wpList_load_row rfl 106 _ rfl X rfl 106 _ (0, 0) _ HBX6.out Tryz.underlying106 rfl (by rw [size93]; simp [rv_len, H1l.out, H2l.out]) ?_)
 go_ret
 refine ⟨rfl, ?_⟩
 have hX : ∀ y ∈ [X], y ∈ [R] ∨ w.heap.size ≤ y := by intro y hy; simp at hy; rw [hy]; exact .inr HLX.out
 exact ((((HSw1.out.mono (by simp)).trans HS2.out).trans HS3.out).trans' HS4.out hX |>.trans HS5.out).trans' HS6.out hX
theorem mr_read1 (cs : Array Value) (w : World) : (method 284 101 (.agg cs) "rookery/types.read").run Tryz.prog w = .ok (103, .agg cs) w := by kernel_rfl
theorem mr_right1 (cs : Array Value) (w : World) : (method 284 101 (.agg cs) "rookery/types.right").run Tryz.prog w = .ok (104, .agg cs) w := by kernel_rfl
theorem mr_form1 (cs : Array Value) (w : World) : (method 284 101 (.agg cs) "rookery/types.form").run Tryz.prog w = .ok (102, .agg cs) w := by kernel_rfl
theorem mr_read2 (cs : Array Value) (w : World) : (method 284 104 (.agg cs) "rookery/types.read").run Tryz.prog w = .ok (115, .agg cs) w := by kernel_rfl
theorem mr_right2 (cs : Array Value) (w : World) : (method 284 104 (.agg cs) "rookery/types.right").run Tryz.prog w = .ok (116, .agg cs) w := by kernel_rfl
theorem mr_form2 (cs : Array Value) (w : World) : (method 284 104 (.agg cs) "rookery/types.form").run Tryz.prog w = .ok (113, .agg cs) w := by kernel_rfl
theorem mr_read3 (cs : Array Value) (w : World) : (method 284 106 (.agg cs) "rookery/types.read").run Tryz.prog w = .ok (130, .agg cs) w := by kernel_rfl
theorem mr_right3 (cs : Array Value) (w : World) : (method 284 106 (.agg cs) "rookery/types.right").run Tryz.prog w = .ok (131, .agg cs) w := by kernel_rfl
theorem mr_form3 (cs : Array Value) (w : World) : (method 284 106 (.agg cs) "rookery/types.form").run Tryz.prog w = .ok (128, .agg cs) w := by kernel_rfl
theorem mr_read4 (cs : Array Value) (w : World) : (method 284 108 (.agg cs) "rookery/types.read").run Tryz.prog w = .ok (134, .agg cs) w := by kernel_rfl
theorem mr_right4 (cs : Array Value) (w : World) : (method 284 108 (.agg cs) "rookery/types.right").run Tryz.prog w = .ok (135, .agg cs) w := by kernel_rfl
theorem mr_form4 (cs : Array Value) (w : World) : (method 284 108 (.agg cs) "rookery/types.form").run Tryz.prog w = .ok (133, .agg cs) w := by kernel_rfl
structure Rdy (k : Nat) (w : World) (sl : Sl) (bs : List Nat) : Prop where
 rd : Rd w sl.p (byts bs)
 len : bs.length = sl.n
 ok : sl.ok
 cap : sl.n ≤ sl.c
 u8 : U8 bs
 le : bs.length ≤ 64
theorem Rdy.rr {k : Nat} {w : World} {sl : Sl} {bs : List Nat} (h : Rdy k w sl bs) : Rr w (w.alloc (.cells #[.slice sl.p sl.n sl.c] 131)) w.heap.size sl bs :=
 ⟨heap_alloc_new w _, Nat.le_refl _, (Apart.refl [] w).alloc _, h.rd, h.len, h.cap, h.ok, h.u8⟩
theorem apR {w w1 w2 : World} (h : Apart [] w w1) (k : Apart [w.heap.size] w1 w2) : Apart [] w w2 := h.trans' k (by intro y hy; simp at hy; rw [hy]; exact .inr (Nat.le_refl _))
theorem Rdy.read1 {w : World} {sl : Sl} {bs : List Nat} (h : Rdy 1 w sl bs) : Calls Tryz.prog 103 #[.agg (rv (zr ++ zr)).toArray, .pointer (some ⟨w.heap.size, 0, none⟩)] (w.alloc (.cells #[.slice sl.p sl.n sl.c] 131)) fun r w' => ∃ cs, r = .returned (.iface 101 (.agg cs)) ∧ Apart [] w w' ∧ (∀ wx, Apart [] w' wx → Calls Tryz.prog 104 #[.agg cs] wx fun r w2 => r = .returned (.bool (rightV (readV 1 bs))) ∧ Apart [] wx w2) ∧ (∀ wx, Apart [] w' wx → Calls Tryz.prog 102 #[.agg cs] wx fun r w2 => ∃ s', r = .returned (.slice s'.p s'.n s'.c) ∧ Bf wx w2 s' (formV (readV 1 bs))) ∧ (∀ wx V, Apart [] w' wx → Bd wx V (.iface 101 (.agg cs)) → Ho wx V (readV 1 bs)) := by
 have hle := h.le
 have hb := rowR_bd (h.u8.drop 1) 6
 have hw := cu_wd hb.1 hb.2.1
 refine (cread_ok h.rr (by omega)).mono ?_
 rintro _ w' ⟨rfl, a'⟩
 exact ⟨_, rfl, apR ((Apart.refl [] w).alloc _) a', fun wx _ => cright_ok _, fun wx _ => cform_ok hw.1 hw.2, fun wx V _ hB => hB⟩
theorem Rdy.read2 {w : World} {sl : Sl} {bs : List Nat} (h : Rdy 2 w sl bs) : Calls Tryz.prog 115 #[.agg (sv zr ⟨none, 0, 0⟩), .pointer (some ⟨w.heap.size, 0, none⟩)] (w.alloc (.cells #[.slice sl.p sl.n sl.c] 131)) fun r w' => ∃ cs, r = .returned (.iface 104 (.agg cs)) ∧ Apart [] w w' ∧ (∀ wx, Apart [] w' wx → Calls Tryz.prog 116 #[.agg cs] wx fun r w2 => r = .returned (.bool (rightV (readV 2 bs))) ∧ Apart [] wx w2) ∧ (∀ wx, Apart [] w' wx → Calls Tryz.prog 113 #[.agg cs] wx fun r w2 => ∃ s', r = .returned (.slice s'.p s'.n s'.c) ∧ Bf wx w2 s' (formV (readV 2 bs))) ∧ (∀ wx V, Apart [] w' wx → Bd wx V (.iface 104 (.agg cs)) → Ho wx V (readV 2 bs)) := by
 have hle := h.le
 have hb := rowR_bd (h.u8.drop 1) 2
 have hs := esI_bd (hb.2.2.drop 1) (leV ((rowR (bs.drop 1) 2).2.take 1))
 have hn := leV1 hb.2.2
 have hl1 := rowR_left (bs.drop 1) 2
 rw [List.length_drop] at hl1
 refine (sread_ok h.rr (by omega)).mono ?_
 rintro _ w' ⟨s', rfl, e', a'⟩
 refine ⟨_, rfl, a', fun wx ax => sright_ok hb.1 (e'.kept0 ax) (by rw [esI_len]; omega), fun wx ax => sform_ok hb.1 (e'.kept0 ax) (by rw [esI_len]; omega) (fun x hx => ?_), fun wx V ax hB => ⟨s', hB, e'.kept0 ax⟩⟩
 have h1 := (hs.1 x hx).1
 rw [List.length_drop] at h1
 omega
theorem Rdy.read3 {w : World} {sl : Sl} {bs : List Nat} (h : Rdy 3 w sl bs) : Calls Tryz.prog 130 #[.agg (rv (zr ++ zr)).toArray, .pointer (some ⟨w.heap.size, 0, none⟩)] (w.alloc (.cells #[.slice sl.p sl.n sl.c] 131)) fun r w' => ∃ cs, r = .returned (.iface 106 (.agg cs)) ∧ Apart [] w w' ∧ (∀ wx, Apart [] w' wx → Calls Tryz.prog 131 #[.agg cs] wx fun r w2 => r = .returned (.bool (rightV (readV 3 bs))) ∧ Apart [] wx w2) ∧ (∀ wx, Apart [] w' wx → Calls Tryz.prog 128 #[.agg cs] wx fun r w2 => ∃ s', r = .returned (.slice s'.p s'.n s'.c) ∧ Bf wx w2 s' (formV (readV 3 bs))) ∧ (∀ wx V, Apart [] w' wx → Bd wx V (.iface 106 (.agg cs)) → Ho wx V (readV 3 bs)) := by
 have hle := h.le
 have hb := rowR_bd (h.u8.drop 1) 2
 have hb2 := rowR_bd hb.2.2 2
 refine (fread_ok h.rr (by omega)).mono ?_
 rintro _ w' ⟨rfl, a'⟩
 exact ⟨_, rfl, apR ((Apart.refl [] w).alloc _) a', fun wx _ => fright_ok hb.1 hb2.1, fun wx _ => fform_ok hb.1 hb2.1, fun wx V _ hB => hB⟩
theorem Rdy.read4 {w : World} {sl : Sl} {bs : List Nat} (h : Rdy 4 w sl bs) : Calls Tryz.prog 134 #[.agg (ty.rg 0 0 ⟨#[]⟩), .pointer (some ⟨w.heap.size, 0, none⟩)] (w.alloc (.cells #[.slice sl.p sl.n sl.c] 131)) fun r w' => ∃ cs, r = .returned (.iface 108 (.agg cs)) ∧ Apart [] w w' ∧ (∀ wx, Apart [] w' wx → Calls Tryz.prog 135 #[.agg cs] wx fun r w2 => r = .returned (.bool (rightV (readV 4 bs))) ∧ Apart [] wx w2) ∧ (∀ wx, Apart [] w' wx → Calls Tryz.prog 133 #[.agg cs] wx fun r w2 => ∃ s', r = .returned (.slice s'.p s'.n s'.c) ∧ Bf wx w2 s' (formV (readV 4 bs))) ∧ (∀ wx V, Apart [] w' wx → Bd wx V (.iface 108 (.agg cs)) → Ho wx V (readV 4 bs)) := by
 have hle := h.le
 refine (gread_ok h.rr (by omega)).mono ?_
 rintro _ w' ⟨rfl, a'⟩
 refine ⟨_, rfl, apR ((Apart.refl [] w).alloc _) a', fun wx _ => gright_ok, fun wx _ => ?_, fun wx V _ hB => hB⟩
 exact gform_ok (by rw [strB_size]; show ((((bs.drop 1).drop 3).drop 1).take 59).length ≤ 1000; rw [List.length_take]; omega)
end Go.Proofs.YtdbeeikjngnnnaaGreat.ty
