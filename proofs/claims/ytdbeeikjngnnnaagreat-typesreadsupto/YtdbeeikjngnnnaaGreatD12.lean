import Derived.Test.YtdbeeikjngnnnaaGreatChecked
import Derived.WalkKit
import Derived.ProofKit
import Derived.OpenShut
import Derived.Deep.QuietTactic
import Derived.BigQuiet
import Derived.BigRegion
import Derived.Laws.CopyOwn
import Derived.Laws.IdiomCopy
import Derived.WalkSmall
import Derived.Laws.ResultCell
import Derived.Laws.AppendOwnNone
import Derived.Deep.RegionHeld
import Derived.Deep.DeepAppendRoom
import Derived.Great.BuildSlice
import Derived.Deep.CutBlock
import Derived.Deep.RegionLaw
import Derived.ArgAppend
import Derived.Laws.Strings
import Derived.Laws.StructEq
import Derived.Below
import Derived.Deep.MidRow
import Derived.Great.Ranges
import Derived.Deep.RegionHeld3
import Derived.Laws.NewBlocks
import Derived.OrdersHeld
import Derived.Stop.BytesEq
import Derived.Laws.BytesString
import Derived.Lib.ConvBytes
import Derived.Laws.BitsAllLaws
import Derived.WalkLawsBesides
import Derived.Lib.Bytealg
import Derived.Laws.Externs
import Derived.Lib.SliceRun
import Derived.Lib.AppendZerosOnto
import Derived.Lib.AppendStr
import Derived.Lib.SlBytesConst
import Derived.Sort.Walk0
import Derived.Laws.Cover1
import Derived.Lib.Strings
import Derived.Lib.MinMaxS
import GoSem.Claim
import GoSem.ClaimJoined
import GoSem.ClaimMapViews
import Derived.JoinedTies
import Derived.KernelRfl
import Derived.JoinedCond
import Derived.ShutString
import Derived.ChangeOld
import Derived.Carry
import Derived.ChangeSlices
import Derived.Deep.Slices
import Derived.Deep.DeepHandedRow
import Derived.RowKit
import Derived.ChangeShapes
import Derived.SizedLaws
import Derived.ChangeMaps5
import Derived.Sort.WalkA
import Derived.Test.YtdbeeikjngnnnaaGreatRows
import Derived.Test.YtdbeeikjngnnnaaGreatD7
import Derived.Test.YtdbeeikjngnnnaaGreatD9
namespace Go.Proofs.YtdbeeikjngnnnaaGreat.ty
open Go.ChangeShapes Go.WideShapes Go.ChangeAt Go.RowKit
set_option linter.unusedVariables false
set_option linter.unusedSimpArgs false
theorem Rr.setX {wB w w' : World} {R X : Nat} {s : Sl} {us : List Nat} (h : Rr wB w R s us) (a : Apart [X] w w') (hn : X ≠ R) (hX : wB.heap.size ≤ X) : Rr wB w' R s us :=
  ⟨keepB a h.blk hn.symm, h.new, h.ap.trans' a (by intro y hy; simp at hy; rw [hy]; exact .inr hX), h.rd, h.len, h.cap, h.ok, h.u8⟩
/-- what a register's bytes tell -/
def regR (us : List Nat) : Nat × Nat × List Nat := (leV ((us.drop 1).take 3), leV (((us.drop 1).drop 3).take 1), (((us.drop 1).drop 3).drop 1).take 59)
set_option maxHeartbeats 1000000 in
set_option maxRecDepth 100000 in
theorem gread_ok {wB w : World} {R : Nat} {s : Sl} {us : List Nat} (h : Rr wB w R s us) (hl : us.length ≤ 1000000) : Calls Tryz.prog 134 #[.agg (ty.rg 0 0 ⟨#[]⟩), .pointer (some ⟨R, 0, none⟩)] w fun r w' => r = .returned (.iface 108 (.agg (ty.rg ((regR us).1 : Int) ((regR us).2.1 : Int) (strB (regR us).2.2)))) ∧ Apart [R] w w' := by
  have HWB : Hid (wB.heap.size ≤ w.heap.size) := hid h.ap.size
  have HR := hid h
  have Hl := hid hl
  have hRl := lt_of_heap h.blk
  clear h hl
  obtain ⟨n, Hn⟩ : ∃ n, Hid (n = leV ((us.drop 1).take 3)) := ⟨_, hid rfl⟩
  obtain ⟨a, Ha⟩ : ∃ n, Hid (n = leV (((us.drop 1).drop 3).take 1)) := ⟨_, hid rfl⟩
  obtain ⟨ts, Hts⟩ : ∃ n, Hid (n = (((us.drop 1).drop 3).drop 1).take 59) := ⟨_, hid rfl⟩
  have e : regR us = (n, a, ts) := by rw [regR, Hn.out, Ha.out, Hts.out]
  rw [e]
  clear e
  unfold ty.rg
  go_enter Tryz.func134, Tryz.ntmps134
  go_upto_region 1 with fail
  obtain ⟨X, HXX⟩ : ∃ X, Hid (X = w.heap.size) := ⟨_, rfl⟩
  obtain ⟨w1, hw1⟩ : ∃ W, W = w.alloc (.cells #[.int .i64 0, .int .i64 0, .string ⟨#[]⟩] 108) := ⟨_, rfl⟩
  have HSw1 : Hid (Apart [] w w1) := by unfold Hid; rw [hw1]; exact (Apart.refl [] w).alloc _
  have HBX : Hid (w1.heap[X]? = some (.cells #[.int .i64 0, .int .i64 0, .string ⟨#[]⟩] 108 (0, 0))) := by unfold Hid; rw [HXX.out, hw1]; exact heap_alloc_new w _
  have HLX : Hid (w.heap.size ≤ X) := by unfold Hid; rw [HXX.out]; exact Nat.le_refl _
  have HN : Hid (X ≠ R) := hid (by have := HLX.out; omega)
  have HBW : Hid (wB.heap.size ≤ X) := hid (Nat.le_trans HWB.out HLX.out)
  rw [← hw1, ← HXX.out]
  clear hw1 HXX hRl
  have HC := hid (next_ok (HR.out.kept0 HSw1.out) Hl.out 1 (by omega))
  go_upto_region 2 with (go_at_call 108; refine HC.out.mono ?_; rintro _ w2 ⟨a2, rfl, p2, b2, q2, s2⟩; have HR2 := hid q2; have HS2 := hid s2; clear p2 q2 s2 HC)
  have HBX2 := hid (keepB HS2.out HBX.out HN.out)
  have HC := hid (number_ok HR2.out (by have := Hl.out; rw [List.length_drop]; omega) 3 (by omega))
  rw [← Hn.out] at HC
  clear HBX HR
  go_upto_region 3 with (go_at_call 111; refine HC.out.mono ?_; rintro _ w3 ⟨rfl, ⟨b3, q3⟩, s3⟩; have HR3 := hid q3; have HS3 := hid s3; have HBX3 := hid (keepB HS3.out HBX2.out HN.out); clear q3 s3 HC; have z3 : w3.cell? ⟨X, 0, none⟩ = some (.int .i64 0) := (by rw [cell_of_row _ _ _ _ _ _ HBX3.out]; rfl); have f3 := frozen_of_row _ _ 0 _ _ HBX3.out)
  have HS4 : Hid (Apart [X] w3 (w3.setCell ⟨X, 0, none⟩ (.int .i64 (n : Int)))) := hid ((Apart.refl [X] w3).setCell (p := ⟨X, 0, none⟩) (.inl (by simp)) _)
  have HBX4 : Hid ((w3.setCell ⟨X, 0, none⟩ (.int .i64 (n : Int))).heap[X]? = some (.cells #[.int .i64 (n : Int), .int .i64 0, .string ⟨#[]⟩] 108 (0, 0))) := hid (by rw [heap_setCell_same w3 X 0 _ 108 _ HBX3.out]; rfl)
  generalize w3.setCell ⟨X, 0, none⟩ (.int .i64 (n : Int)) = w4 at *
  have HR4 := hid (HR3.out.setX HS4.out HN.out HBW.out)
  have HC := hid (number_ok HR4.out (by have := Hl.out; simp only [List.length_drop]; omega) 1 (by omega))
  rw [← Ha.out] at HC
  clear HR3 HBX2 z3 f3 HBX3
  go_upto_region 4 with (go_at_call 111; refine HC.out.mono ?_; rintro _ w5 ⟨rfl, ⟨b5, q5⟩, s5⟩; have HR5 := hid q5; have HS5 := hid s5; have HBX5 := hid (keepB HS5.out HBX4.out HN.out); clear q5 s5 HC; have z5 : w5.cell? ⟨X, 1, none⟩ = some (.int .i64 0) := (by rw [cell_of_row _ _ _ _ _ _ HBX5.out]; rfl); have f5 := frozen_of_row _ _ 1 _ _ HBX5.out)
  have HS6 : Hid (Apart [X] w5 (w5.setCell ⟨X, 1, none⟩ (.int .i64 (a : Int)))) := hid ((Apart.refl [X] w5).setCell (p := ⟨X, 1, none⟩) (.inl (by simp)) _)
  have HBX6 : Hid ((w5.setCell ⟨X, 1, none⟩ (.int .i64 (a : Int))).heap[X]? = some (.cells #[.int .i64 (n : Int), .int .i64 (a : Int), .string ⟨#[]⟩] 108 (0, 0))) := hid (by rw [heap_setCell_same w5 X 1 _ 108 _ HBX5.out]; rfl)
  generalize w5.setCell ⟨X, 1, none⟩ (.int .i64 (a : Int)) = w6 at *
  have HR6 := hid (HR5.out.setX HS6.out HN.out HBW.out)
  have HC := hid (next_ok HR6.out (by have := Hl.out; simp only [List.length_drop]; omega) 59 (by omega))
  rw [← Hts.out] at HC
  clear HR5 HBX4 z5 f5 HBX5 HR4
  go_wp2_with (first
    | (go_at_call 108; refine HC.out.mono ?_; rintro _ w7 ⟨a7, rfl, p7, b7, q7, s7⟩; have HS7 := hid s7; have HBX7 := hid (keepB HS7.out HBX6.out HN.out); have hcv := conv_bytes (p7.rd.kept0 q7.ap) p7.len p7.ok; clear q7 s7 p7 HC; have z7 : w7.cell? ⟨X, 2, none⟩ = some (.string ⟨#[]⟩) := (by rw [cell_of_row _ _ _ _ _ _ HBX7.out]; rfl); have f7 := frozen_of_row _ _ 2 _ _ HBX7.out)
    | refine wpList_load_row rfl 108 _ rfl X rfl 108 #[.int .i64 (n : Int), .int .i64 (a : Int), .string (strB ts)] (0, 0) _ (by rw [heap_setCell_same w7 X 2 _ 108 _ HBX7.out]; rfl) Tryz.underlying108 rfl (by rw [size95]; rfl) ?_)
  go_ret
  refine ⟨rfl, ?_⟩
  have hX : ∀ y ∈ [X], y ∈ [R] ∨ w.heap.size ≤ y := by intro y hy; simp at hy; rw [hy]; exact .inr HLX.out
  exact (((((((HSw1.out.mono (by simp)).trans HS2.out).trans HS3.out).trans' HS4.out hX).trans HS5.out).trans' HS6.out hX).trans HS7.out).setCell (p := ⟨X, 2, none⟩) (.inr HLX.out) _
set_option maxRecDepth 100000 in
theorem equal_ok {w : World} {s s' : Sl} {bs cs : List Nat} (h : Rd w s.p (byts bs)) (hl : bs.length = s.n) (ok : s.ok) (h' : Rd w s'.p (byts cs)) (hl' : cs.length = s'.n) (ok' : s'.ok) : Calls Tryz.prog 61 #[.slice s.p s.n s.c, .slice s'.p s'.n s'.c] w fun r w' => r = .returned (.bool ((strB bs).toList == (strB cs).toList)) ∧ w' = w := by
  have e1 := conv_bytes h hl ok
  have e2 := conv_bytes h' hl' ok'
  clear h hl ok h' hl' ok'
  go_enter Tryz.func61, Tryz.ntmps61
  go_wp2_with fail
  go_ret
  exact ⟨by first | rfl | simp, rfl⟩
theorem strB_data (bs : List Nat) : (strB bs).data.toList = bs.map UInt8.ofNat := by
  unfold strB
  have : ∀ (l : List Int) (r : ByteArray), (l.foldl (fun r n => r.push (UInt8.ofNat n.toNat)) r).data.toList = r.data.toList ++ l.map (fun n => UInt8.ofNat n.toNat) := by
    intro l
    induction l with
    | nil => intro r; simp
    | cons a l ih => intro r; rw [List.foldl_cons, ih, ByteArray.data_push]; simp
  rw [this]
  simp [List.map_map, Function.comp_def]
theorem map8_inj : ∀ {a b : List Nat}, (∀ x ∈ a, x < 256) → (∀ x ∈ b, x < 256) → a.map UInt8.ofNat = b.map UInt8.ofNat → a = b
  | [], [], _, _, _ => rfl
  | [], _ :: _, _, _, h => by simp at h
  | _ :: _, [], _, _, h => by simp at h
  | x :: a, y :: b, ha, hb, h => by
    simp only [List.map_cons, List.cons.injEq] at h
    have h1 : x = y := by
      have h2 := congrArg UInt8.toNat h.1
      rw [UInt8.toNat_ofNat', UInt8.toNat_ofNat'] at h2
      have h3 := ha x (by simp)
      have h4 := hb y (by simp)
      omega
    rw [h1, map8_inj (fun z hz => ha z (List.mem_cons_of_mem _ hz)) (fun z hz => hb z (List.mem_cons_of_mem _ hz)) h.2]
theorem strB_eq {a b : List Nat} (ha : ∀ x ∈ a, x < 256) (hb : ∀ x ∈ b, x < 256) : ((strB a).toList == (strB b).toList) = decide (a = b) := by
  rw [ByteArray.toList_eq, ByteArray.toList_eq, strB_data, strB_data]
  by_cases h : a = b
  · simp [h]
  · have : ¬ a.map UInt8.ofNat = b.map UInt8.ofNat := fun e => h (map8_inj ha hb e)
    simp only [h, decide_false, beq_eq_false_iff_ne, ne_eq]
    exact this
end Go.Proofs.YtdbeeikjngnnnaaGreat.ty
