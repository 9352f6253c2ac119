import Derived.Test.YtdbeeikjngnnnaaGreatChecked
import Derived.WalkKit
import Derived.ProofKit
import Derived.OpenShut
import Derived.Deep.QuietTactic
import Derived.BigQuiet
import Derived.BigRegion
import Derived.Laws.CopyOwn
import Derived.Laws.IdiomCopy
import Derived.WalkSmall
import Derived.Laws.ResultCell
import Derived.Laws.AppendOwnNone
import Derived.Deep.RegionHeld
import Derived.Deep.DeepAppendRoom
import Derived.Great.BuildSlice
import Derived.Deep.CutBlock
import Derived.Deep.RegionLaw
import Derived.ArgAppend
import Derived.Laws.Strings
import Derived.Laws.StructEq
import Derived.Below
import Derived.Deep.MidRow
import Derived.Great.Ranges
import Derived.Deep.RegionHeld3
import Derived.Laws.NewBlocks
import Derived.OrdersHeld
import Derived.Stop.BytesEq
import Derived.Laws.BytesString
import Derived.Lib.ConvBytes
import Derived.Laws.BitsAllLaws
import Derived.WalkLawsBesides
import Derived.Lib.Bytealg
import Derived.Laws.Externs
import Derived.Lib.SliceRun
import Derived.Lib.AppendZerosOnto
import Derived.Lib.AppendStr
import Derived.Lib.SlBytesConst
import Derived.Sort.Walk0
import Derived.Laws.Cover1
import Derived.Lib.Strings
import Derived.Lib.MinMaxS
import GoSem.Claim
import GoSem.ClaimJoined
import GoSem.ClaimMapViews
import Derived.JoinedTies
import Derived.KernelRfl
import Derived.JoinedCond
import Derived.ShutString
import Derived.ChangeOld
import Derived.Carry
import Derived.ChangeSlices
import Derived.Deep.Slices
import Derived.Deep.DeepHandedRow
import Derived.RowKit
import Derived.ChangeShapes
import Derived.SizedLaws
import Derived.ChangeMaps5
import Derived.Sort.WalkA
import Derived.Test.YtdbeeikjngnnnaaGreatRows
import Derived.Test.YtdbeeikjngnnnaaGreatD9
import Derived.Test.YtdbeeikjngnnnaaGreatD10
namespace Go.Proofs.YtdbeeikjngnnnaaGreat.ty
open Go.ChangeShapes Go.WideShapes Go.ChangeAt Go.RowKit
set_option linter.unusedVariables false
set_option linter.unusedSimpArgs false
theorem Rr.apR {wB w : World} {R : Nat} {s : Sl} {us : List Nat} (h : Rr wB w R s us) : Apart [] wB w := h.ap
set_option maxHeartbeats 1000000 in
set_option maxRecDepth 100000 in
theorem fform_ok {w : World} {c g : List Int} (hc : c.length = 8) (hg : g.length = 8) : Calls Tryz.prog 128 #[.agg (rv (c ++ g)).toArray] w fun r w' => ∃ s', r = .returned (.slice s'.p s'.n s'.c) ∧ Bf w w' s' (3 :: (rowB c 2 ++ rowB g 2)) := by
  have Hc := hid hc
  have Hg := hid hg
  clear hc hg
  have HA := hid (Apart.refl [] w)
  go_enter Tryz.func128, Tryz.ntmps128
  go_upto_region 1 with fail
  obtain ⟨X, HXX⟩ : ∃ X, Hid (X = w.heap.size) := ⟨_, rfl⟩
  obtain ⟨w1, hw1⟩ : ∃ W, W = w.alloc (.cells (rv (c ++ g)).toArray 106) := ⟨_, rfl⟩
  have HSw1 : Hid (Apart [] w w1) := by unfold Hid; rw [hw1]; exact (Apart.refl [] w).alloc _
  have HBX : Hid (w1.heap[X]? = some (.cells (rv (c ++ g)).toArray 106 (0, 0))) := by unfold Hid; rw [HXX.out, hw1]; exact heap_alloc_new w _
  have HLX : Hid (w.heap.size ≤ X) := by unfold Hid; rw [HXX.out]; exact Nat.le_refl _
  replace HA := hid (HA.out.trans HSw1.out)
  rw [← hw1, ← HXX.out]
  clear hw1 HXX
  have HB1 : Hid (Bf w (w1.alloc (.cells #[.int .u8 3] 5)) ⟨some ⟨w1.heap.size, 0, none⟩, 1, 1⟩ [3]) := by
    unfold Hid
    refine ⟨⟨⟨rfl, .inr ⟨w1.heap.size, 1, _, rfl, Nat.zero_le _, heap_alloc_new w1 _, Nat.le_refl _, by unfold maxLen; omega, rfl, rfl⟩⟩, fun k hk => by simp [Sl.v, Value.ownBlock] at hk; rw [← hk]; exact HA.out.size, HA.out.alloc _⟩, rfl⟩
  have HC := hid (appRow HB1.out (by simp) Hc.out (width := 2) (by omega))
  have HBX2 : Hid ((w1.alloc (.cells #[.int .u8 3] 5)).heap[X]? = some (.cells (rv (c ++ g)).toArray 106 (0, 0))) := hid (keep0 ((Apart.refl [] w1).alloc _) HBX.out)
  go_upto_region 2 with (first
    | refine wpL_val rfl (.agg (rv c).toArray) (ex_load _ rfl X 0 _ rfl (rg0 HBX2.out) (by rw [rv_len, Hc.out])) ?_
    | (go_at_call 107; refine HC.out.mono ?_; rintro _ w2 ⟨s2, rfl, b2, t2⟩; have HB2 := hid b2; have HT2 := hid t2; clear b2 t2; clear HC))
  have HBX3 := hid (HT2.out.block HBX2.out (by simp))
  have HC2 := hid (appRow HB2.out (by have := rowB_len c; simp only [List.cons_append, List.nil_append, List.length_cons]; omega) Hg.out (width := 2) (by omega))
  clear HB1 HBX HBX2 HT2
  go_wp2_with (first
    | refine wpL_val rfl (.agg (rv g).toArray) (ex_load _ rfl X 8 _ rfl (rg8 Hc.out HBX3.out) (by rw [rv_len, Hg.out])) ?_
    | (go_at_call 107; refine HC2.out.mono ?_; rintro _ w3 ⟨s3, rfl, b3, t3⟩; have HB3 := hid b3; clear b3 t3))
  go_ret
  exact ⟨s3, rfl, by simpa using HB3.out⟩
set_option maxHeartbeats 1000000 in
set_option maxRecDepth 100000 in
theorem gform_ok {w : World} {n a : Nat} {t : ByteArray} (ht : t.size ≤ 1000) : Calls Tryz.prog 133 #[.agg (ty.rg (n : Int) (a : Int) t)] w fun r w' => ∃ s', r = .returned (.slice s'.p s'.n s'.c) ∧ Bf w w' s' (4 :: (leB n 3 ++ (a % 256) :: bsk t)) := by
  have Ht := hid ht
  clear ht
  unfold ty.rg
  have HA := hid (Apart.refl [] w)
  go_enter Tryz.func133, Tryz.ntmps133
  go_upto_region 1 with fail
  obtain ⟨X, HXX⟩ : ∃ X, Hid (X = w.heap.size) := ⟨_, rfl⟩
  obtain ⟨w1, hw1⟩ : ∃ W, W = w.alloc (.cells #[.int .i64 (n : Int), .int .i64 (a : Int), .string t] 108) := ⟨_, rfl⟩
  have HSw1 : Hid (Apart [] w w1) := by unfold Hid; rw [hw1]; exact (Apart.refl [] w).alloc _
  have HBX : Hid (w1.heap[X]? = some (.cells #[.int .i64 (n : Int), .int .i64 (a : Int), .string t] 108 (0, 0))) := by unfold Hid; rw [HXX.out, hw1]; exact heap_alloc_new w _
  have HLX : Hid (w.heap.size ≤ X) := by unfold Hid; rw [HXX.out]; exact Nat.le_refl _
  replace HA := hid (HA.out.trans HSw1.out)
  rw [← hw1, ← HXX.out]
  clear hw1 HXX
  have HB1 : Hid (Bf w (w1.alloc (.cells #[.int .u8 4] 5)) ⟨some ⟨w1.heap.size, 0, none⟩, 1, 1⟩ [4]) := by
    unfold Hid
    refine ⟨⟨⟨rfl, .inr ⟨w1.heap.size, 1, _, rfl, Nat.zero_le _, heap_alloc_new w1 _, Nat.le_refl _, by unfold maxLen; omega, rfl, rfl⟩⟩, fun k hk => by simp [Sl.v, Value.ownBlock] at hk; rw [← hk]; exact HA.out.size, HA.out.alloc _⟩, rfl⟩
  have HC := hid (appN HB1.out (by simp) (n := n) (width := 3) (by omega))
  have HBX2 : Hid ((w1.alloc (.cells #[.int .u8 4] 5)).heap[X]? = some (.cells #[.int .i64 (n : Int), .int .i64 (a : Int), .string t] 108 (0, 0))) := hid (keep0 ((Apart.refl [] w1).alloc _) HBX.out)
  have z0 : (w1.alloc (.cells #[.int .u8 4] 5)).cell? ⟨X, 0, none⟩ = some (.int .i64 (n : Int)) := by rw [cell_of_row _ _ _ _ _ _ HBX2.out]; rfl
  go_upto_region 2 with (go_at_call 110; refine HC.out.mono ?_; rintro _ w2 ⟨s2, rfl, b2, t2⟩; have HB2 := hid b2; have HT2 := hid t2; clear b2 t2; clear HC)
  have HBX3 := hid (HT2.out.block HBX2.out (by simp))
  have z1 : w2.cell? ⟨X, 1, none⟩ = some (.int .i64 (a : Int)) := by rw [cell_of_row _ _ _ _ _ _ HBX3.out]; rfl
  obtain ⟨s3, w3, hrun, b3, t3⟩ := app_byte HB2.out (a % 256) (by simp [leB_len])
  have HR := hid hrun
  have HB3 := hid b3
  have HBX4 := hid (t3.block HBX3.out (by simp))
  clear hrun b3 t3 HB1 HBX HBX2 HT2 z0 HB2
  go_upto_region 3 with (refine wpList_append3 rfl _ _ 29 rfl _ _ rfl rfl (.slice s3.p s3.n s3.c) w3 HR.out ?_)
  have z2 : w3.cell? ⟨X, 2, none⟩ = some (.string t) := by rw [cell_of_row _ _ _ _ _ _ HBX4.out]; rfl
  obtain ⟨s4, w4, hrun, b4, t4⟩ := app_str HB3.out t (by have := Ht.out; simp [leB_len]; omega)
  have HR4 := hid hrun
  have HB4 := hid b4
  clear hrun b4 t4 HR z1 HBX3
  go_wp2_with (at_builtin; refine wpList_app2 rfl _ _ 29 9 rfl _ _ rfl rfl (.slice s4.p s4.n s4.c) w4 HR4.out ?_)
  go_ret
  exact ⟨s4, rfl, by simpa using HB4.out⟩
set_option maxHeartbeats 1000000 in
set_option maxRecDepth 100000 in
theorem fread_ok {wB w : World} {R : Nat} {s : Sl} {us : List Nat} (h : Rr wB w R s us) (hl : us.length ≤ 1000000) : Calls Tryz.prog 130 #[.agg (rv (zr ++ zr)).toArray, .pointer (some ⟨R, 0, none⟩)] w fun r w' => r = .returned (.iface 106 (.agg (rv ((rowR (us.drop 1) 2).1 ++ (rowR (rowR (us.drop 1) 2).2 2).1)).toArray)) ∧ Apart [R] w w' := by
  have HWB : Hid (wB.heap.size ≤ w.heap.size) := hid h.ap.size
  have HR := hid h
  have Hl := hid hl
  have hRl := lt_of_heap h.blk
  clear h hl
  obtain ⟨r1, Hr1⟩ : ∃ r, Hid (r = rowR (us.drop 1) 2) := ⟨_, hid rfl⟩
  rw [← Hr1.out]
  obtain ⟨r2, Hr2⟩ : ∃ r, Hid (r = rowR r1.2 2) := ⟨_, hid rfl⟩
  rw [← Hr2.out]
  have H1l : Hid (r1.1.length = 8) := hid (by rw [Hr1.out]; exact rwI_len _ _ _ _)
  have H2l : Hid (r2.1.length = 8) := hid (by rw [Hr2.out]; exact rwI_len _ _ _ _)
  have Hln : Hid (r1.2.length ≤ 1000000) := hid (by rw [Hr1.out]; have h1 := rwI_left (leV ((us.drop 1).take 1)) 2 ((us.drop 1).drop 1) 8; have h2 := Hl.out; simp only [List.length_drop] at h1; exact Nat.le_trans h1 (by omega))
  go_enter Tryz.func130, Tryz.ntmps130
  go_upto_region 1 with fail
  obtain ⟨X, HXX⟩ : ∃ X, Hid (X = w.heap.size) := ⟨_, rfl⟩
  obtain ⟨w1, hw1⟩ : ∃ W, W = w.alloc (.cells (rv (zr ++ zr)).toArray 106) := ⟨_, rfl⟩
  have HSw1 : Hid (Apart [] w w1) := by unfold Hid; rw [hw1]; exact (Apart.refl [] w).alloc _
  have HBX : Hid (w1.heap[X]? = some (.cells (rv (zr ++ zr)).toArray 106 (0, 0))) := by unfold Hid; rw [HXX.out, hw1]; exact heap_alloc_new w _
  have HLX : Hid (w.heap.size ≤ X) := by unfold Hid; rw [HXX.out]; exact Nat.le_refl _
  have HN : Hid (X ≠ R) := hid (by have := HLX.out; omega)
  rw [← hw1, ← HXX.out]
  clear hw1 HXX hRl
  have HC := hid (next_ok (HR.out.kept0 HSw1.out) Hl.out 1 (by omega))
  go_upto_region 2 with (go_at_call 108; refine HC.out.mono ?_; rintro _ w2 ⟨a2, rfl, p2, b2, q2, s2⟩; have HR2 := hid q2; have HS2 := hid s2; clear p2 q2 s2 HC)
  have HBX2 := hid (keepB HS2.out HBX.out HN.out)
  have HC := hid (row_ok HR2.out (by have := Hl.out; rw [List.length_drop]; omega) 2 (by omega))
  rw [← Hr1.out] at HC
  clear HBX HR
  go_upto_region 3 with (first
    | (go_at_call 109; refine HC.out.mono ?_; rintro _ w3 ⟨rfl, ⟨b3, q3⟩, s3⟩; have HR3 := hid q3; have HS3 := hid s3; have HBX3 := hid (keepB HS3.out HBX2.out HN.out); clear q3 s3 HC)
    | (refine wpList_store_mid rfl 99 _ _ rfl X 0 (rv r1.1).toArray rfl rfl (there_of HBX3.out 0 _ (by simp [rv_len, H1l.out, zr])) (by rw [size86]; simp [rv_len, H1l.out]) (all_oneCell_toArray (rv_one _)) ?_
       simp only [List.toList_toArray]
       have HBX4 := hid (set0_row (u := zr) rfl H1l.out HBX3.out)
       have HS4 := hid (apart_setCells w3 X (rv r1.1) 0)
       generalize w3.setCells X 0 (rv r1.1) = w4 at *
       clear HBX3))
  have HR4 : Hid (Rr wB w4 R b3 r1.2) := hid (by
    have h3 := HR3.out
    have h5 : wB.heap.size ≤ X := Nat.le_trans HWB.out HLX.out
    exact ⟨keepB HS4.out h3.blk HN.out.symm, h3.new, h3.ap.trans' HS4.out (by intro y hy; simp at hy; rw [hy]; exact .inr h5), h3.rd, h3.len, h3.cap, h3.ok, h3.u8⟩)
  have HC := hid (row_ok HR4.out Hln.out 2 (by omega))
  rw [← Hr2.out] at HC
  clear HR3 HBX2
  go_wp2_with (first
    | (go_at_call 109; refine HC.out.mono ?_; rintro _ w5 ⟨rfl, ⟨b5, q5⟩, s5⟩; have HS5 := hid s5; have HBX5 := hid (keepB HS5.out HBX4.out HN.out); clear q5 s5 HC)
    | (refine wpList_store_mid rfl 99 _ _ rfl X 8 (rv r2.1).toArray rfl rfl (there_of HBX5.out 8 _ (by simp [rv_len, H1l.out, H2l.out, zr])) (by rw [size86]; simp [rv_len, H2l.out]) (all_oneCell_toArray (rv_one _)) ?_
       simp only [List.toList_toArray]
       have HBX6 := hid (set8_row H1l.out (d := zr) rfl H2l.out HBX5.out)
       have HS6 := hid (apart_setCells w5 X (rv r2.1) 8)
       generalize w5.setCells X 8 (rv r2.1) = w6 at *
       clear HBX5)
    | refine wpList_load_row rfl 106 _ rfl X rfl 106 _ (0, 0) _ HBX6.out Tryz.underlying106 rfl (by rw [size93]; simp [rv_len, H1l.out, H2l.out]) ?_)
  go_ret
  refine ⟨rfl, ?_⟩
  have hX : ∀ y ∈ [X], y ∈ [R] ∨ w.heap.size ≤ y := by intro y hy; simp at hy; rw [hy]; exact .inr HLX.out
  exact ((((HSw1.out.mono (by simp)).trans HS2.out).trans HS3.out).trans' HS4.out hX |>.trans HS5.out).trans' HS6.out hX
end Go.Proofs.YtdbeeikjngnnnaaGreat.ty
