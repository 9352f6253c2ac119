import Derived.Deep.RegionHeld
import Derived.OrdersHeld
import Derived.WalkKit
import Derived.ProofKit
import Derived.Lib.TrailingZeros
import Derived.Test.YtllhmidpphlbhaaChecked
import Derived.OpenShut
import Derived.Deep.QuietTactic
import Derived.BigQuiet
import Derived.BigRegion
import Derived.Laws.CopyOwn
import Derived.Laws.Bits64b
import Derived.Laws.MathBits
import Derived.Laws.ShiftsVarLaws
import Derived.WalkSmall
import Derived.Laws.ResultCell
import Derived.Lib.BitFns
import Derived.Laws.StructEq
import Derived.ArgAppend
import Derived.Deep.RegionLaw
import Derived.Deep.DeepAppendRoom
import Derived.Sort.WalkA
import Derived.Laws.Strings
import Derived.Deep.CutBlock
import Derived.Great.BuildSlice
import Derived.Laws.AppendOwnNone
import Derived.Lib.Overlaps
import Derived.Lib.AppendZerosOnto
import Derived.Laws.NewBlocks
import Derived.Laws.Externs
import Derived.Laws.IdiomCopy
import Derived.Laws.BytesString
import Derived.Deep.CutRange
import Derived.RangeFuncNested
import Derived.RangeFuncBound
import Derived.RangeFuncCalls
import Derived.RangeFuncLeaves
import Derived.Shelf.Abstract
import Derived.Shelf.RegionOpen
import Derived.OwnWalkIn
import Derived.TacticsInMore
import Derived.LoopNIn
import Derived.LoopIn
import GoSem.Claim
import GoSem.ClaimJoined
import GoSem.ClaimMapViews
import Derived.JoinedTies
import Derived.KernelRfl
import Derived.Deep.OwnRows
import Derived.Lib.LaidTab
import Derived.JoinedCond
import Derived.ShutString
import Derived.ChangeOld
import Derived.Below
import Derived.Carry
import Derived.ChangeSlices
import Derived.Deep.Slices
import Derived.Deep.DeepHandedRow
import Derived.RowKit
import Derived.ChangeShapes
import Derived.SizedLaws
import Derived.ChangeMaps5
import Derived.Lib.Walk
import Derived.Lib.SliceRun
import Derived.Lib.AppendStr
import Derived.Lib.ConvBytes
import Derived.Deep.RegionHeld3
import Derived.Deep.MidRow
import Derived.Laws.MakeOwn
import Derived.Lib.SlBytesConst
import Derived.Test.YtllhmidpphlbhaaRows
import Derived.Test.YtllhmidpphlbhaaF32
import Derived.Test.YtllhmidpphlbhaaF37
namespace Go.Proofs.Ytllhmidpphlbhaa.ds
open Go.ChangeShapes Go.WideShapes Go.ChangeAt Go.RowKit Go.Sort
set_option linter.unusedVariables false
set_option linter.unusedSimpArgs false

theorem keyV_sl (P o : Nat) (h : Ph) : ∃ kp kn kc, keyV P o h = .slice kp kn kc := by
  unfold keyV
  split
  · exact ⟨_, _, _, rfl⟩
  · exact ⟨_, _, _, rfl⟩
theorem step_store_mid {w : World} {ops : Array Oper} {o : Oper} {a : Act} {K : Act → World → Prop} {Q : Exit → Act → World → Prop} {E : Prop} (hgd : o.guard = none) (ty : TypeId) (x y : Operand) (ho : o.op = .store ty x y)
    (b f : Nat) (cells : Array Value) (hx : a.eval x = .pointer (some ⟨b, f, none⟩)) (hy : a.eval y = .agg cells) (ht : w.there b f cells.size) (hi : (Try.prog.info? ty).map (·.size) = some cells.size) (h1 : cells.all (·.oneCell') = true)
    (h : K (a.put o.dst undef) (w.setCells b f cells.toList)) : if Region.wanted o (yielded ops a.tmps) = true then Oper.wp Try.prog o a w K Q else E := by
  have hw : Region.wanted o (yielded ops a.tmps) = true := by simp [Region.wanted, hgd]
  rw [if_pos hw]
  exact wp_store_mid ty x y ho b f cells hx hy ht hi h1 h
def zW : List Value := wrL 0 0 false (.slice none 0 0) [] 0
theorem zW_one : zW.toArray.all (·.oneCell') = true := wrL_one _ _ _ _ rfl _ _
/-- whether a number is none of a page's writes -/
def argW (h : Ph) (z : Int) : Bool := decide (h.k = 1) || !decide (0 ≤ z ∧ z ≤ (h.m : Int) - 1)
/-- what a view's write answers -/
structure VwP (w : World) (P o : Nat) (B : List Nat) (z : Int) (e : Ending) (w' : World) : Prop where
  a : Apart [] w w'
  arg : argW (headR B ⟨0, false⟩).1 z = true → e = .returned (.tuple #[.slice none 0 0, .agg zW.toArray, .int .i64 1])
  bad : argW (headR B ⟨0, false⟩).1 z = false → (writesR B (z.toNat + 1) 0 0 (headR B ⟨0, false⟩).2).2.bad = true → e = .returned (.tuple #[.slice none 0 0, .agg zW.toArray, .int .i64 70])
  ok : argW (headR B ⟨0, false⟩).1 z = false → (writesR B (z.toNat + 1) 0 0 (headR B ⟨0, false⟩).2).2.bad = false → e = .returned (.tuple #[keyV P o (headR B ⟨0, false⟩).1, .agg (lastW P o (writesR B (z.toNat + 1) 0 0 (headR B ⟨0, false⟩).2).1).toArray, .int .i64 0])
set_option maxHeartbeats 16000000 in
set_option maxRecDepth 100000 in
theorem vwrite_ok {w : World} {s : Sl} {B : List Nat} {V : Nat} (h : Pb w s B) (hn : s.n = 2048) (hv : Vw w V s) (z : Int) : ∃ P o, s.p = some ⟨P, o, none⟩ ∧ Calls Try.prog 52 #[.pointer (some ⟨V, 0, none⟩), .int .i64 z] w fun e w' => VwP w P o B z e w' := by
  obtain ⟨P, o, hp, hPl, hrd⟩ := h.reader hn
  refine ⟨P, o, hp, ?_⟩
  obtain ⟨F, HXF⟩ : ∃ X, Hid (X = w.heap.size) := ⟨_, rfl⟩
  obtain ⟨w1, hw1⟩ : ∃ W, W = w.alloc (.cells #[.int .i64 0, .int .i64 0, .bool false, .slice none 0 0, .int .i64 0, .int .i64 0, .int .u64 0, .int .i64 0, .int .i64 0, .int .u64 0, .int .i64 0, .int .i64 0, .int .u64 0, .int .i64 0, .int .i64 0, .int .u64 0, .int .i64 0, .int .i64 0, .int .u64 0, .int .i64 0, .int .i64 0, .int .u64 0, .int .i64 0, .int .i64 0, .int .u64 0, .int .i64 0, .int .i64 0, .int .u64 0, .int .i64 0] 107) := ⟨_, rfl⟩
  have a1 : Apart [] w w1 := by rw [hw1]; exact (Apart.refl [] w).alloc _
  have hF1 : w1.heap[F]? = some (.cells zW.toArray 107 (0, 0)) := by rw [HXF.out, hw1]; exact heap_alloc_new w _
  obtain ⟨R, HXR⟩ : ∃ X, Hid (X = w1.heap.size) := ⟨_, rfl⟩
  obtain ⟨w2, hw2⟩ : ∃ W, W = w1.alloc (.cells #[.slice s.p s.n s.c, .int .i64 0, .bool false] 97) := ⟨_, rfl⟩
  have a2 : Apart [] w1 w2 := by rw [hw2]; exact (Apart.refl [] w1).alloc _
  have HR2 : Hid (PR w2 R P o s.c B ⟨0, false⟩) := hrd w2 R (a1.trans a2) (by rw [HXR.out]; exact a1.size) (by rw [HXR.out, hw2]; exact heap_alloc_new w1 _)
  have HF2 := hid (keep0 a2 hF1)
  have HRw : Hid (w.heap.size ≤ R) := by unfold Hid; rw [HXR.out]; exact a1.size
  have HFw : Hid (w.heap.size ≤ F) := by unfold Hid; rw [HXF.out]; exact Nat.le_refl _
  have HFR : Hid (F ≠ R) := by unfold Hid; have := lt_of_heap hF1; rw [HXR.out]; omega
  have HA2 := hid (a1.trans a2)
  have zv : w1.cell? ⟨V, 0, none⟩ = some (.slice s.p s.n s.c) := by rw [cell_of_row _ _ _ _ _ _ (keep0 a1 hv)]; rfl
  have HC := hid (head_ok HR2.out (fun _ => by dsimp only; omega))
  clear h hrd hv hp hn hPl a1 a2 hF1
  go_enter Try.func52, Try.ntmps52
  go_upto_region 1 with fail
  rw [← hw1, ← HXF.out]
  clear hw1
  go_upto_region 2 with fail
  rw [← hw2, ← HXR.out]
  clear hw2 zv
  go_wp2_with fail
  refine HC.out.mono ?_
  rintro _ w3 ⟨rfl, r3, a3⟩
  have HR3 := hid r3
  have HF3 := hid (keepB a3 HF2.out HFR.out)
  have HA3 := hid (HA2.out.trans' a3 (by intro y hy; simp at hy; rw [hy]; exact .inr HRw.out))
  clear r3 a3 HC
  dsimp only
  obtain ⟨kp, kn, kc, hkv⟩ := keyV_sl P o (headR B ⟨0, false⟩).1
  obtain ⟨hd, Hhd⟩ : ∃ hd, Hid (hd = headR B ⟨0, false⟩) := ⟨_, rfl⟩
  rw [hdV_lit, hkv, ← Hhd.out]
  have HKV := hid hkv
  clear hkv
  obtain ⟨H, HXH⟩ : ∃ X, Hid (X = w3.heap.size) := ⟨_, rfl⟩
  obtain ⟨w4, hw4⟩ : ∃ W, W = w3.alloc (.cells #[.int .i64 (hd.1.k : Nat), .int .i64 (hd.1.g : Nat), .int .i64 (hd.1.o : Nat), .int .i64 (hd.1.m : Nat), .slice kp kn kc] 99) := ⟨_, rfl⟩
  have a4 : Apart [] w3 w4 := by rw [hw4]; exact (Apart.refl [] w3).alloc _
  have hH4 : w4.heap[H]? = some (.cells #[.int .i64 (hd.1.k : Nat), .int .i64 (hd.1.g : Nat), .int .i64 (hd.1.o : Nat), .int .i64 (hd.1.m : Nat), .slice kp kn kc] 99 (0, 0)) := by rw [HXH.out, hw4]; exact heap_alloc_new w3 _
  have hm16 : hd.1.m ≤ 16 := by rw [Hhd.out]; exact (headR_at B ⟨0, false⟩).2.2.2.1
  have HM8 : Hid (hd.1.k ≠ 1 → hd.1.m ≤ 8) := by unfold Hid; rw [Hhd.out]; exact (headR_at B ⟨0, false⟩).2.2.2.2.1
  have HAT : Hid (hd.2.at_ ≤ 19) := by unfold Hid; rw [Hhd.out]; have := (headR_at B ⟨0, false⟩).2.1; dsimp only at this; omega
  have hwm : IntKind.i64.wrap (((hd.1.m : Nat) : Int) - 1) = ((hd.1.m : Nat) : Int) - 1 := by rw [IntKind.wrap_i64]; omega
  go_upto_region 3 with fail
  rw [← hw4, ← HXH.out]
  clear hw4
  have h0 := crow hH4 0 (.int .i64 (hd.1.k : Nat)) rfl
  have h3 := crow hH4 3 (.int .i64 (hd.1.m : Nat)) rfl
  rw [← Hhd.out] at HR3
  have HR4 := hid (HR3.out.kept0 a4)
  have HF4 := hid (keep0 a4 HF3.out)
  have HA4 := hid (HA3.out.trans a4)
  have HH4 := hid hH4
  clear a4 hH4 HR3 HF3 HA3 HF2 HR2 HA2
  obtain ⟨ab, Hab⟩ : ∃ b, Hid (b = argW hd.1 z) := ⟨_, rfl⟩
  go_cut [26] from 16 to 26 (fun s26 wx => .bool ab = s26 ∧ Apart [] w4 wx)
  case first =>
    by_cases hk : hd.1.k = 1
    · have hki : (((hd.1.k : Nat) : Int) == 1) = true := by rw [hk]; rfl
      have HD : Hid (ab = true) := by unfold Hid; rw [Hab.out]; unfold argW; simp [hk]
      clear hk
      go_wp2_with fail
      go_meet
      exact ⟨by first | (rw [HD.out]; done) | (rw [HD.out]; simp), Apart.refl _ _⟩
    · have hki : (((hd.1.k : Nat) : Int) == 1) = false := by rw [beq_eq_false_iff_ne]; omega
      obtain ⟨v, hv⟩ := bool_of (0 ≤ z ∧ z ≤ ((hd.1.m : Nat) : Int) - 1)
      have HD : Hid (ab = !v) := by
        unfold Hid; rw [Hab.out]; unfold argW
        rw [decide_eq_false hk, Bool.false_or]
        congr 1
        rw [Bool.eq_iff_iff, decide_eq_true_eq]
        exact hv.symm
      have HV := hid hv
      clear hk hv
      go_wp2_with fail
      refine (within_ok w4 z 0 _ v HV.out).mono ?_
      rintro _ wn ⟨rfl, an⟩
      have HAN := hid an
      clear an
      try dsimp only
      go_wp2_with fail
      go_meet
      exact ⟨by first | (rw [HD.out]; done) | (rw [HD.out]; simp), HAN.out⟩
  obtain ⟨rfl, a5⟩ := hcut
  have HR5 := hid (HR4.out.kept0 a5)
  have HF5 := hid (keep0 a5 HF4.out)
  have HA5 := hid (HA4.out.trans a5)
  have HH5 := hid (keep0 a5 HH4.out)
  clear a5 h0 h3 HR4 HF4 HA4 HH4
  generalize wc = w5 at *
  cases ab with
  | true =>
    go_upto_region 4 with fail
    refine wp_region_list ?_
    dsimp only [Array.toList]
    refine wpList_cutat 2 (fun a' w' => Hid (wpList _ _ _ (List.drop 2 _) a' w')) (fun T hT => ?_) (fun _ _ h => h)
    dsimp only [List.take, List.cons_append, List.nil_append, List.append]
    go_wp2_with fail
    refine hT _ _ ?_
    clear hT T
    unfold Hid
    dsimp only [List.drop]
    refine wpList_store_mid rfl 107 (.tmp 5) (.tmp 27) rfl F 0 zW.toArray rfl rfl (there_of HF5.out _ _ (by show 0 + 29 ≤ 29; omega)) (by rw [size107]; rfl) zW_one ?_
    obtain ⟨zz, hzz⟩ : ∃ z, z = w5.setCells F 0 zW := ⟨_, rfl⟩
    rw [show zW.toArray.toList = zW from rfl, ← hzz]
    have bz : Apart [F] w5 zz := by rw [hzz]; exact apart_setCells _ _ _ (Apart.refl _ _) (.inl (by simp))
    have HAz := hid (HA5.out.trans' bz (by intro y hy; simp at hy; rw [hy]; exact .inr HFw.out))
    have HBz : Hid (zz.heap[F]? = some (.cells zW.toArray 107 (0, 0))) := by
      unfold Hid; rw [hzz]
      have := heap_setCells_same zW 0 w5 _ HF5.out
      rw [spl_all (by rfl)] at this
      exact this
    clear bz hzz
    go_wp2_with fail
    refine bodyPost_ret (results_tmp_row_tmp rfl _ _ F 107 _ _ _ rfl HBz.out Try.underlying107 rfl (by rw [size107]; rfl)) rfl ?_
    exact ⟨HAz.out, (fun _ => rfl), (fun h => by rw [← Hhd.out, ← Hab.out] at h; cases h), (fun h => by rw [← Hhd.out, ← Hab.out] at h; cases h)⟩
  | false =>
    have hz : 0 ≤ z ∧ z ≤ ((hd.1.m : Nat) : Int) - 1 ∧ hd.1.k ≠ 1 := by
      have := Hab.out.symm
      unfold argW at this
      simp only [Bool.or_eq_false_iff, decide_eq_false_iff_not, Bool.not_eq_false', decide_eq_true_eq] at this
      exact ⟨this.2.1, this.2.2, this.1⟩
    obtain ⟨i, rfl⟩ := Int.eq_ofNat_of_zero_le hz.1
    have hm8 := HM8.out hz.2.2
    have hwi : IntKind.i64.wrap (((i : Nat) : Int) + 1) = ((i + 1 : Nat) : Int) := by rw [IntKind.wrap_i64]; omega
    have HI8 : Hid (i + 1 ≤ 8) := by unfold Hid; omega
    clear hz
    go_wp2_with fail
    refine (writes_ok HR5.out (i + 1) (by have := HI8.out; omega) (fun _ => by have := HI8.out; have := HAT.out; omega)).mono ?_
    rintro _ w6 ⟨⟨rfl, r6, a6⟩, hl29⟩
    have HR6 := hid r6
    have HA6 := hid (HA5.out.trans' a6 (by intro y hy; simp at hy; rw [hy]; exact .inr HRw.out))
    have HF6 := hid (keepB a6 HF5.out HFR.out)
    have HH6 := hid (keepB a6 HH5.out (fun e => by
      have h1 := HR5.out.blk
      rw [← e, HH5.out] at h1
      simp at h1))
    clear r6 a6
    obtain ⟨ws, Hws⟩ : ∃ x, Hid (x = writesR B (i + 1) 0 0 hd.2) := ⟨_, rfl⟩
    rw [← Hws.out] at HR6 hl29 ⊢
    obtain ⟨ll, Hll⟩ : ∃ x, Hid (x = lastW P o ws.1) := ⟨_, rfl⟩
    have hone : ll.toArray.all (·.oneCell') = true := by rw [Hll.out]; exact lastW_one _ _ _
    rw [← Hll.out] at hl29 ⊢
    have HONE := hid hone
    have HL29 := hid hl29
    clear hone hl29
    try dsimp only
    obtain ⟨X, HXX⟩ : ∃ X, Hid (X = w6.heap.size) := ⟨_, rfl⟩
    obtain ⟨w7, hw7⟩ : ∃ W, W = w6.alloc (.cells #[.int .i64 0, .int .i64 0, .bool false, .slice none 0 0, .int .i64 0, .int .i64 0, .int .u64 0, .int .i64 0, .int .i64 0, .int .u64 0, .int .i64 0, .int .i64 0, .int .u64 0, .int .i64 0, .int .i64 0, .int .u64 0, .int .i64 0, .int .i64 0, .int .u64 0, .int .i64 0, .int .i64 0, .int .u64 0, .int .i64 0, .int .i64 0, .int .u64 0, .int .i64 0, .int .i64 0, .int .u64 0, .int .i64 0] 107) := ⟨_, rfl⟩
    have a7 : Apart [] w6 w7 := by rw [hw7]; exact (Apart.refl [] w6).alloc _
    have hX7 : w7.heap[X]? = some (.cells zW.toArray 107 (0, 0)) := by rw [HXX.out, hw7]; exact heap_alloc_new w6 _
    have HX7 := hid hX7
    have HFX : Hid (F ≠ X) := by unfold Hid; have := lt_of_heap HF6.out; rw [HXX.out]; omega
    have HHX : Hid (H ≠ X) := by unfold Hid; have := lt_of_heap HH6.out; rw [HXX.out]; omega
    have HRX : Hid (R ≠ X) := by unfold Hid; have := lt_of_heap HR6.out.blk; rw [HXX.out]; omega
    have HXw : Hid (w.heap.size ≤ X) := by unfold Hid; rw [HXX.out]; exact HA6.out.size
    have HF7 := hid (keep0 a7 HF6.out)
    have HH7 := hid (keep0 a7 HH6.out)
    have HRb7 := hid (keep0 a7 HR6.out.blk)
    have HA7 := hid (HA6.out.trans a7)
    clear a7 hX7
    rename_i K1 hK1
    refine hK1 _ _ ?_
    clear hK1
    refine wpList_cutat 1 (fun a' w' => Hid (wpList _ _ _ (List.drop 1 _) a' w')) (fun T hT => ?_) (fun _ _ h => h)
    dsimp only [List.take, List.cons_append, List.nil_append, List.append]
    go_wp2_with fail
    refine hT _ _ ?_
    clear hT T
    unfold Hid
    dsimp only [List.drop]
    rw [← hw7, ← HXX.out]
    clear hw7
    refine wpList_store_mid rfl 107 (.tmp 9) (.tmp 30) rfl X 0 ll.toArray rfl rfl (there_of HX7.out _ _ (by rw [List.size_toArray, HL29.out]; show 0 + 29 ≤ 29; omega)) (by rw [size107, List.size_toArray, HL29.out]) HONE.out ?_
    obtain ⟨w8, hw8⟩ : ∃ z, z = w7.setCells X 0 ll := ⟨_, rfl⟩
    rw [show ll.toArray.toList = ll from rfl, ← hw8]
    have b8 : Apart [X] w7 w8 := by rw [hw8]; exact apart_setCells _ _ _ (Apart.refl _ _) (.inl (by simp))
    have HX8 : Hid (w8.heap[X]? = some (.cells ll.toArray 107 (0, 0))) := by
      unfold Hid; rw [hw8]
      have := heap_setCells_same ll 0 w7 _ HX7.out
      rw [spl_all (by rw [HL29.out]; rfl)] at this
      exact this
    have HF8 := hid (keepB b8 HF7.out HFX.out)
    have HH8 := hid (keepB b8 HH7.out HHX.out)
    have hR8 := keepB b8 HRb7.out HRX.out
    have HA8 := hid (HA7.out.trans' b8 (by intro y hy; simp at hy; rw [hy]; exact .inr HXw.out))
    have r2 := crow hR8 2 (.bool ws.2.bad) rfl
    clear b8 hw8 hR8
    cases hbb : ws.2.bad with
    | true =>
      rw [hbb] at r2
      have HBB := hid hbb
      clear hbb
      go_upto_region 7 with fail
      clear r2
      refine wp_region_list ?_
      dsimp only [Array.toList]
      refine wpList_cutat 2 (fun a' w' => Hid (wpList _ _ _ (List.drop 2 _) a' w')) (fun T hT => ?_) (fun _ _ h => h)
      dsimp only [List.take, List.cons_append, List.nil_append, List.append]
      go_wp2_with fail
      refine hT _ _ ?_
      clear hT T
      unfold Hid
      dsimp only [List.drop]
      refine wpList_store_mid rfl 107 (.tmp 5) (.tmp 33) rfl F 0 zW.toArray rfl rfl (there_of HF8.out _ _ (by show 0 + 29 ≤ 29; omega)) (by rw [size107]; rfl) zW_one ?_
      obtain ⟨zz, hzz⟩ : ∃ z, z = w8.setCells F 0 zW := ⟨_, rfl⟩
      rw [show zW.toArray.toList = zW from rfl, ← hzz]
      have bz : Apart [F] w8 zz := by rw [hzz]; exact apart_setCells _ _ _ (Apart.refl _ _) (.inl (by simp))
      have HAz := hid (HA8.out.trans' bz (by intro y hy; simp at hy; rw [hy]; exact .inr HFw.out))
      have HBz : Hid (zz.heap[F]? = some (.cells zW.toArray 107 (0, 0))) := by
        unfold Hid; rw [hzz]
        have := heap_setCells_same zW 0 w8 _ HF8.out
        rw [spl_all (by rfl)] at this
        exact this
      clear bz hzz
      go_wp2_with fail
      refine bodyPost_ret (results_tmp_row_tmp rfl _ _ F 107 _ _ _ rfl HBz.out Try.underlying107 rfl (by rw [size107]; rfl)) rfl ?_
      refine ⟨HAz.out, (fun h => by rw [← Hhd.out, ← Hab.out] at h; cases h), (fun _ _ => rfl), (fun _ h => ?_)⟩
      rw [← Hhd.out, Int.toNat_natCast, ← Hws.out, HBB.out] at h
      cases h
    | false =>
      rw [hbb] at r2
      have HBB := hid hbb
      clear hbb
      go_upto_region 8 with fail
      clear r2
      have HXd := hid (keep0 (Apart.refl [] w8).drew HX8.out)
      have HFd := hid (keep0 (Apart.refl [] w8).drew HF8.out)
      have HHd := hid (keep0 (Apart.refl [] w8).drew HH8.out)
      have HAd := hid HA8.out.drew
      have hSd : w8.drew.heap[H]? = some (.cells #[.int .i64 (hd.1.k : Nat), .int .i64 (hd.1.g : Nat), .int .i64 (hd.1.o : Nat), .int .i64 (hd.1.m : Nat), .slice kp kn kc] 99 (0, 0)) ∧ w8.drew.heap[X]? = some (.cells ll.toArray 107 (0, 0)) := ⟨HHd.out, HXd.out⟩
      refine wp_region_held_drew (S := fun W => W.heap[H]? = some (.cells #[.int .i64 (hd.1.k : Nat), .int .i64 (hd.1.g : Nat), .int .i64 (hd.1.o : Nat), .int .i64 (hd.1.m : Nat), .slice kp kn kc] 99 (0, 0)) ∧ W.heap[X]? = some (.cells ll.toArray 107 (0, 0))) (by kernel_rfl) hSd (fun hHeld => ?_)
      generalize w8.drew = wd at *
      refine tk 0 34 (.pointer (some ⟨H, 4, none⟩)) rfl ?_ ?_
      · intro W hSW; go_simp
      simp only [Act.put, List.setIfInBounds_toArray, List.set_cons_zero, List.set_cons_succ]
      refine tk 1 35 (.slice kp kn kc) rfl ?_ ?_
      · intro W hSW; have c4 := crow hSW.1 4 (.slice kp kn kc) rfl; go_simp
      simp only [Act.put, List.setIfInBounds_toArray, List.set_cons_zero, List.set_cons_succ]
      refine wpAnyH_take (i := 2) (oi := ⟨some 36, _, _, _, _, _⟩) (v := .agg ll.toArray) rfl (by kernel_rfl) (by kernel_rfl) (by kernel_rfl) (fun _ _ _ h => h) (yieldsIf_load_mid (by rfl) 107 (.tmp 9) rfl X 0 rfl ll _ (fun W hSW => range_of hSW.2) Try.underlying107 rfl (by rw [size107, HL29.out])) (by assumption) ?_
      simp only [Act.put, List.setIfInBounds_toArray, List.set_cons_zero, List.set_cons_succ]
      refine tk 3 4 (.slice kp kn kc) rfl ?_ ?_
      · intro W hSW; go_simp
      simp only [Act.put, List.setIfInBounds_toArray, List.set_cons_zero, List.set_cons_succ]
      obtain ⟨we, hwe⟩ : ∃ z, z = wd.setCells F 0 ll := ⟨_, rfl⟩
      have be : Apart [F] wd we := by rw [hwe]; exact apart_setCells _ _ _ (Apart.refl _ _) (.inl (by simp))
      have HFe : Hid (we.heap[F]? = some (.cells ll.toArray 107 (0, 0))) := by
        unfold Hid; rw [hwe]
        have := heap_setCells_same ll 0 wd _ HFd.out
        rw [spl_all (by rw [HL29.out]; rfl)] at this
        exact this
      have HAe := hid (HAd.out.trans' be (by intro y hy; simp at hy; rw [hy]; exact .inr HFw.out))
      have hSe : we.heap[H]? = some (.cells #[.int .i64 (hd.1.k : Nat), .int .i64 (hd.1.g : Nat), .int .i64 (hd.1.o : Nat), .int .i64 (hd.1.m : Nat), .slice kp kn kc] 99 (0, 0)) ∧ we.heap[X]? = some (.cells ll.toArray 107 (0, 0)) := ⟨keepB be HHd.out (fun e => by
        have h1 := HFd.out
        rw [← e, HHd.out] at h1
        simp at h1), keepB be HXd.out (fun e => HFX.out e.symm)⟩
      clear be
      refine wpAnyH_ready (rs := [4]) (by kernel_rfl) (by simp) ?_
      refine AllReadyH.cons rfl (fun KK hKK => ?_) AllReadyH.nil
      refine step_store_mid rfl 107 (.tmp 5) (.tmp 36) rfl F 0 ll.toArray rfl rfl (there_of HFd.out _ _ (by rw [List.size_toArray, HL29.out]; show 0 + 29 ≤ 29; omega)) (by rw [size107, List.size_toArray, HL29.out]) HONE.out ?_
      rw [show ll.toArray.toList = ll from rfl, ← hwe]
      refine hKK.out _ _ hSe (fun hHeld => ?_)
      clear hKK KK
      try simp only [Act.put, List.setIfInBounds_toArray, List.set_cons_zero, List.set_cons_succ]
      refine tk 5 6 (.int .i64 0) rfl ?_ ?_
      · intro W hSW; go_simp
      simp only [Act.put, List.setIfInBounds_toArray, List.set_cons_zero, List.set_cons_succ]
      refine wpAnyH_done (by kernel_rfl) ?_ _
      clear hHeld hSd hSe hwe
      go_wp2_with fail
      refine bodyPost_ret (results_tmp_row_tmp rfl _ _ F 107 _ _ _ rfl HFe.out Try.underlying107 rfl (by rw [size107, List.size_toArray, HL29.out])) rfl ?_
      refine ⟨HAe.out, (fun h => by rw [← Hhd.out, ← Hab.out] at h; cases h), (fun _ h => ?_), (fun _ _ => ?_)⟩
      · rw [← Hhd.out, Int.toNat_natCast, ← Hws.out, HBB.out] at h
        cases h
      · rw [HKV.out, ← Hhd.out, Int.toNat_natCast, ← Hws.out, ← Hll.out]
        rfl
end Go.Proofs.Ytllhmidpphlbhaa.ds
namespace Go.Proofs.Ytllhmidpphlbhaa.ds
open Go.ChangeShapes Go.WideShapes Go.ChangeAt Go.RowKit Go.Sort
set_option linter.unusedVariables false
set_option linter.unusedSimpArgs false

/-- a view's write: its error, the write by its places, key and value in the page -/
def vErr (B : List Nat) (z : Int) : Nat := if argW (headR B ⟨0, false⟩).1 z = true then 1 else if (writesR B (z.toNat + 1) 0 0 (headR B ⟨0, false⟩).2).2.bad = true then 70 else 0
def vPw (B : List Nat) (z : Int) : Pw := if vErr B z = 0 then (writesR B (z.toNat + 1) 0 0 (headR B ⟨0, false⟩).2).1.getLast?.getD Pw.z else Pw.z
def vSl (P o : Nat) (B : List Nat) (z : Int) : Sl := if vErr B z = 0 then ⟨some ⟨P, if (vPw B z).vn = 0 then o else o + (vPw B z).vb, none⟩, (vPw B z).vn, (vPw B z).vn⟩ else slz
def vKey (P o : Nat) (B : List Nat) (z : Int) : Value := if vErr B z = 0 then keyV P o (headR B ⟨0, false⟩).1 else .slice none 0 0
def vCs (P o : Nat) (B : List Nat) (z : Int) : List Value := wrL (vPw B z).n (vPw B z).c (vPw B z).d (.slice (vSl P o B z).p (vSl P o B z).n (vSl P o B z).c) (vPw B z).xs (vPw B z).xs.length
theorem writesR_ne (B : List Nat) (m an ac : Nat) (s : Ps) : ∃ l p, (writesR B (m + 1) an ac s).1 = l ++ [p] ∧ p.xs.length ≤ 8 := by
  induction m generalizing an ac s with
  | zero => exact ⟨[], _, rfl, writeR_xs B an ac s⟩
  | succ m ih =>
    obtain ⟨l, p, h1, h2⟩ := ih (writeR B an ac s).1.n (writeR B an ac s).1.c (writeR B an ac s).2
    exact ⟨(writeR B an ac s).1 :: l, p, by show (writeR B an ac s).1 :: (writesR B (m + 1) _ _ _).1 = _; rw [h1]; rfl, h2⟩
theorem vPw_x (B : List Nat) (z : Int) : (vPw B z).xs.length ≤ 8 := by
  unfold vPw
  split
  · obtain ⟨l, p, h1, h2⟩ := writesR_ne B z.toNat 0 0 (headR B ⟨0, false⟩).2
    rw [h1, List.getLast?_concat]
    exact h2
  · exact Nat.zero_le _
theorem VwP.q {w w' : World} {P o : Nat} {B : List Nat} {z : Int} {e : Ending} (h : VwP w P o B z e w') : e = .returned (.tuple #[vKey P o B z, .agg (vCs P o B z).toArray, .int .i64 (vErr B z : Nat)]) := by
  cases ha : argW (headR B ⟨0, false⟩).1 z with
  | true =>
    have e1 : vErr B z = 1 := by unfold vErr; rw [if_pos ha]
    have e2 : vPw B z = Pw.z := by unfold vPw; rw [if_neg (by rw [e1]; decide)]
    have e3 : vSl P o B z = slz := by unfold vSl; rw [if_neg (by rw [e1]; decide)]
    have e4 : vKey P o B z = .slice none 0 0 := by unfold vKey; rw [if_neg (by rw [e1]; decide)]
    unfold vCs
    rw [h.arg ha, e1, e2, e3, e4]
    rfl
  | false =>
    cases hb : (writesR B (z.toNat + 1) 0 0 (headR B ⟨0, false⟩).2).2.bad with
    | true =>
      have e1 : vErr B z = 70 := by unfold vErr; rw [if_neg (by rw [ha]; decide), if_pos hb]
      have e2 : vPw B z = Pw.z := by unfold vPw; rw [if_neg (by rw [e1]; decide)]
      have e3 : vSl P o B z = slz := by unfold vSl; rw [if_neg (by rw [e1]; decide)]
      have e4 : vKey P o B z = .slice none 0 0 := by unfold vKey; rw [if_neg (by rw [e1]; decide)]
      unfold vCs
      rw [h.bad ha hb, e1, e2, e3, e4]
      rfl
    | false =>
      have e1 : vErr B z = 0 := by unfold vErr; rw [if_neg (by rw [ha]; decide), if_neg (by rw [hb]; decide)]
      obtain ⟨l, p, h1, -⟩ := writesR_ne B z.toNat 0 0 (headR B ⟨0, false⟩).2
      have e2 : vPw B z = p := by unfold vPw; rw [if_pos e1, h1, List.getLast?_concat]; rfl
      have e4 : vKey P o B z = keyV P o (headR B ⟨0, false⟩).1 := by unfold vKey; rw [if_pos e1]
      have e5 : lastW P o (writesR B (z.toNat + 1) 0 0 (headR B ⟨0, false⟩).2).1 = vCs P o B z := by
        rw [h1, lastW_snoc]
        unfold vCs vSl
        rw [if_pos e1, e2]
        rfl
      rw [h.ok ha hb, e1, e4, e5]
      rfl
theorem vCs_len (P o : Nat) (B : List Nat) (z : Int) : (vCs P o B z).length = 29 := wrL_len (vPw_x B z)
theorem vCs_one (P o : Nat) (B : List Nat) (z : Int) : (vCs P o B z).toArray.all (·.oneCell') = true := wrL_one _ _ _ _ rfl _ _
end Go.Proofs.Ytllhmidpphlbhaa.ds
