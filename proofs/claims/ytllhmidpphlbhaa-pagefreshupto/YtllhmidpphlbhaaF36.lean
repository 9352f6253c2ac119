import Derived.Deep.RegionHeld
import Derived.OrdersHeld
import Derived.WalkKit
import Derived.ProofKit
import Derived.Lib.TrailingZeros
import Derived.Test.YtllhmidpphlbhaaChecked
import Derived.OpenShut
import Derived.Deep.QuietTactic
import Derived.BigQuiet
import Derived.BigRegion
import Derived.Laws.CopyOwn
import Derived.Laws.Bits64b
import Derived.Laws.MathBits
import Derived.Laws.ShiftsVarLaws
import Derived.WalkSmall
import Derived.Laws.ResultCell
import Derived.Lib.BitFns
import Derived.Laws.StructEq
import Derived.ArgAppend
import Derived.Deep.RegionLaw
import Derived.Deep.DeepAppendRoom
import Derived.Sort.WalkA
import Derived.Laws.Strings
import Derived.Deep.CutBlock
import Derived.Great.BuildSlice
import Derived.Laws.AppendOwnNone
import Derived.Lib.Overlaps
import Derived.Lib.AppendZerosOnto
import Derived.Laws.NewBlocks
import Derived.Laws.Externs
import Derived.Laws.IdiomCopy
import Derived.Laws.BytesString
import Derived.Deep.CutRange
import Derived.RangeFuncNested
import Derived.RangeFuncBound
import Derived.RangeFuncCalls
import Derived.RangeFuncLeaves
import Derived.Shelf.Abstract
import Derived.Shelf.RegionOpen
import Derived.OwnWalkIn
import Derived.TacticsInMore
import Derived.LoopNIn
import Derived.LoopIn
import GoSem.Claim
import GoSem.ClaimJoined
import GoSem.ClaimMapViews
import Derived.JoinedTies
import Derived.KernelRfl
import Derived.Deep.OwnRows
import Derived.Lib.LaidTab
import Derived.JoinedCond
import Derived.ShutString
import Derived.ChangeOld
import Derived.Below
import Derived.Carry
import Derived.ChangeSlices
import Derived.Deep.Slices
import Derived.Deep.DeepHandedRow
import Derived.RowKit
import Derived.ChangeShapes
import Derived.SizedLaws
import Derived.ChangeMaps5
import Derived.Lib.Walk
import Derived.Lib.SliceRun
import Derived.Lib.AppendStr
import Derived.Lib.ConvBytes
import Derived.Deep.RegionHeld3
import Derived.Deep.MidRow
import Derived.Laws.MakeOwn
import Derived.Lib.SlBytesConst
import Derived.Test.YtllhmidpphlbhaaRows
import Derived.Test.YtllhmidpphlbhaaF34
namespace Go.Proofs.Ytllhmidpphlbhaa.ds
open Go.ChangeShapes Go.WideShapes Go.ChangeAt Go.RowKit Go.Sort
set_option linter.unusedVariables false
set_option linter.unusedSimpArgs false

/-- the cells of the last write, or of none -/
def pwL (P o : Nat) (p : Pw) : List Value := wrL p.n p.c p.d (tsl P o (p.vb, p.vn)) p.xs p.xs.length
def lastW (P o : Nat) (ps : List Pw) : List Value := match ps.getLast? with
  | none => wrL 0 0 false (.slice none 0 0) [] 0
  | some p => pwL P o p
theorem lastW_snoc (P o : Nat) (ps : List Pw) (p : Pw) : lastW P o (ps ++ [p]) = pwL P o p := by unfold lastW; rw [List.getLast?_concat]
theorem writeR_xs (B : List Nat) (an ac : Nat) (s : Ps) : (writeR B an ac s).1.xs.length ≤ 8 := by unfold writeR; exact (setR_at B _ _ _).2.2
theorem pwL_len {P o : Nat} {p : Pw} (h : p.xs.length ≤ 8) : (pwL P o p).length = 29 := wrL_len h
theorem pwL_one (P o : Nat) (p : Pw) : (pwL P o p).toArray.all (·.oneCell') = true := wrL_one _ _ _ _ rfl _ _
theorem lastW_one (P o : Nat) (ps : List Pw) : (lastW P o ps).toArray.all (·.oneCell') = true := by
  unfold lastW
  split
  · exact wrL_one _ _ _ _ rfl _ _
  · exact pwL_one _ _ _
theorem writesR_succ (B : List Nat) (m an ac : Nat) (s : Ps) (hm : 0 < m) : writesR B m an ac s = ((writeR B an ac s).1 :: (writesR B (m - 1) (writeR B an ac s).1.n (writeR B an ac s).1.c (writeR B an ac s).2).1, (writesR B (m - 1) (writeR B an ac s).1.n (writeR B an ac s).1.c (writeR B an ac s).2).2) := by
  obtain ⟨k, rfl⟩ : ∃ k, m = k + 1 := ⟨m - 1, by omega⟩
  rfl
/-- the walk over writes -/
structure WI (w wt : World) (R P o c : Nat) (B : List Nat) (m : Nat) (s : Ps) (D Y : Nat) (i an ac : Nat) (si : Ps) (ps : List Pw) : Prop where
  im : i ≤ m
  r : PR wt R P o c B si
  a : Apart [R] w wt
  room : si.bad = false → si.at_ + 176 * (m - i) ≤ 2048
  e : writesR B m 0 0 s = (ps ++ (writesR B (m - i) an ac si).1, (writesR B (m - i) an ac si).2)
  bd : wt.heap[D]? = some (.cells (wrL 0 0 false (.slice none 0 0) [] 0).toArray 107 (0, 0))
  by_ : wt.heap[Y]? = some (.cells (lastW P o ps).toArray 107 (0, 0))
  dots : (lastW P o ps)[0]? = some (.int .i64 (an : Nat)) ∧ (lastW P o ps)[1]? = some (.int .i64 (ac : Nat))
  len : (lastW P o ps).length = 29
  lim : an ≤ 7 ∧ ac ≤ 1048576
theorem WI.step {w wt w1 : World} {R P o c : Nat} {B : List Nat} {m : Nat} {s : Ps} {D Y : Nat} {i an ac : Nat} {si : Ps} {ps : List Pw} (h : WI w wt R P o c B m s D Y i an ac si ps) (hi : i < m) (r : PR w1 R P o c B (writeR B an ac si).2) (a : Apart [R] wt w1) (hD : D ≠ R) (hY : Y ≠ R) (hDY : Y ≠ D) (hP : P ≠ Y) (hw : w.heap.size ≤ Y) (z : World) (hz : z = w1.setCells Y 0 (pwL P o (writeR B an ac si).1)) : WI w z R P o c B m s D Y (i + 1) (writeR B an ac si).1.n (writeR B an ac si).1.c (writeR B an ac si).2 (ps ++ [(writeR B an ac si).1]) := by
  have b := apart_setCells (g := Y) (X := [Y]) (pwL P o (writeR B an ac si).1) 0 w1 (Apart.refl _ _) (.inl (by simp))
  rw [← hz] at b
  have hat := writeR_at B an ac si
  have hx := pwL_len (P := P) (o := o) (writeR_xs B an ac si)
  refine ⟨by omega, r.kept b (by simp; exact fun e => hY e.symm) (by simp; exact hP), (h.a.trans a).trans' b (by intro y hy; simp at hy; rw [hy]; exact .inr hw), fun hb => ?_, ?_, keepB b (keepB a h.bd hD) (fun e => hDY e.symm), ?_, ?_, ?_, ⟨hat.2.2.1, hat.2.2.2.1⟩⟩
  · have : si.bad = false := by
      cases hx : si.bad with
      | false => rfl
      | true => rw [writeR_bad B an ac hx] at hb; rw [hx] at hb; cases hb
    have := h.room this
    have : m - i = m - (i + 1) + 1 := by omega
    rw [this] at *
    omega
  · rw [h.e, writesR_succ B (m - i) an ac si (by omega), show m - (i + 1) = m - i - 1 from by omega]
    simp
  · have h1 := heap_setCells_same (pwL P o (writeR B an ac si).1) 0 w1 _ (keepB a h.by_ hY)
    rw [spl_all (by rw [List.size_toArray, h.len, hx])] at h1
    rw [hz, lastW_snoc]; exact h1
  · rw [lastW_snoc]; exact ⟨rfl, rfl⟩
  · rw [lastW_snoc]; exact hx
set_option maxHeartbeats 8000000 in
set_option maxRecDepth 100000 in
theorem writes_ok {w : World} {R P o c : Nat} {B : List Nat} {s : Ps} (h : PR w R P o c B s) (m : Nat) (hm : m ≤ 1000) (hr : s.bad = false → s.at_ + 176 * m ≤ 2048) :
    Calls Try.prog 49 #[.pointer (some ⟨R, 0, none⟩), .int .i64 (m : Nat)] w fun e w' => PO w w' R P o c B e (.agg (lastW P o (writesR B m 0 0 s).1).toArray) (writesR B m 0 0 s).2 ∧ (lastW P o (writesR B m 0 0 s).1).length = 29 := by
  have HR := hid h
  have HA : Hid (Apart [R] w w) := Apart.refl _ _
  have HRM := hid hr
  clear h hr
  obtain ⟨D, HXD⟩ : ∃ X, Hid (X = w.heap.size) := ⟨_, rfl⟩
  obtain ⟨w1, hw1⟩ : ∃ W, W = w.alloc (.cells #[.int .i64 0, .int .i64 0, .bool false, .slice none 0 0, .int .i64 0, .int .i64 0, .int .u64 0, .int .i64 0, .int .i64 0, .int .u64 0, .int .i64 0, .int .i64 0, .int .u64 0, .int .i64 0, .int .i64 0, .int .u64 0, .int .i64 0, .int .i64 0, .int .u64 0, .int .i64 0, .int .i64 0, .int .u64 0, .int .i64 0, .int .i64 0, .int .u64 0, .int .i64 0, .int .i64 0, .int .u64 0, .int .i64 0] 107) := ⟨_, rfl⟩
  have HSw1 : Hid (Apart [] w w1) := by unfold Hid; rw [hw1]; exact (Apart.refl [] w).alloc _
  have HBD : Hid (w1.heap[D]? = some (.cells #[.int .i64 0, .int .i64 0, .bool false, .slice none 0 0, .int .i64 0, .int .i64 0, .int .u64 0, .int .i64 0, .int .i64 0, .int .u64 0, .int .i64 0, .int .i64 0, .int .u64 0, .int .i64 0, .int .i64 0, .int .u64 0, .int .i64 0, .int .i64 0, .int .u64 0, .int .i64 0, .int .i64 0, .int .u64 0, .int .i64 0, .int .i64 0, .int .u64 0, .int .i64 0, .int .i64 0, .int .u64 0, .int .i64 0] 107 (0, 0))) := by unfold Hid; rw [HXD.out, hw1]; exact heap_alloc_new w _
  have HND_R : Hid (D ≠ R) := by unfold Hid; have := lt_of_heap HR.out.blk; rw [HXD.out]; omega
  have HND_P : Hid (P ≠ D) := by unfold Hid; have := HR.out.lt; rw [HXD.out]; omega
  have HLD : Hid (w.heap.size ≤ D) := by unfold Hid; rw [HXD.out]; exact HA.out.size
  replace HR := hid (HR.out.kept0 HSw1.out)
  replace HA := hid (HA.out.trans (HSw1.out.mono (by simp)))
  replace HBD : Hid (w1.heap[D]? = some (.cells (wrL 0 0 false (.slice none 0 0) [] 0).toArray 107 (0, 0))) := HBD
  obtain ⟨Y, HXY⟩ : ∃ X, Hid (X = w1.heap.size) := ⟨_, rfl⟩
  obtain ⟨w2, hw2⟩ : ∃ W, W = w1.alloc (.cells #[.int .i64 0, .int .i64 0, .bool false, .slice none 0 0, .int .i64 0, .int .i64 0, .int .u64 0, .int .i64 0, .int .i64 0, .int .u64 0, .int .i64 0, .int .i64 0, .int .u64 0, .int .i64 0, .int .i64 0, .int .u64 0, .int .i64 0, .int .i64 0, .int .u64 0, .int .i64 0, .int .i64 0, .int .u64 0, .int .i64 0, .int .i64 0, .int .u64 0, .int .i64 0, .int .i64 0, .int .u64 0, .int .i64 0] 107) := ⟨_, rfl⟩
  have HSw2 : Hid (Apart [] w1 w2) := by unfold Hid; rw [hw2]; exact (Apart.refl [] w1).alloc _
  have HBY : Hid (w2.heap[Y]? = some (.cells #[.int .i64 0, .int .i64 0, .bool false, .slice none 0 0, .int .i64 0, .int .i64 0, .int .u64 0, .int .i64 0, .int .i64 0, .int .u64 0, .int .i64 0, .int .i64 0, .int .u64 0, .int .i64 0, .int .i64 0, .int .u64 0, .int .i64 0, .int .i64 0, .int .u64 0, .int .i64 0, .int .i64 0, .int .u64 0, .int .i64 0, .int .i64 0, .int .u64 0, .int .i64 0, .int .i64 0, .int .u64 0, .int .i64 0] 107 (0, 0))) := by unfold Hid; rw [HXY.out, hw2]; exact heap_alloc_new w1 _
  have HNY_R : Hid (Y ≠ R) := by unfold Hid; have := lt_of_heap HR.out.blk; rw [HXY.out]; omega
  have HNY_P : Hid (P ≠ Y) := by unfold Hid; have := HR.out.lt; rw [HXY.out]; omega
  have HNY_D : Hid (Y ≠ D) := by unfold Hid; have := lt_of_heap HBD.out; rw [HXY.out]; omega
  have HLY : Hid (w.heap.size ≤ Y) := by unfold Hid; rw [HXY.out]; exact HA.out.size
  replace HR := hid (HR.out.kept0 HSw2.out)
  replace HA := hid (HA.out.trans (HSw2.out.mono (by simp)))
  replace HBD := hid (keep0 HSw2.out HBD.out)
  have heY : D + 1 = Y := by rw [HXY.out, hw1, HXD.out]; exact (Array.size_push _).symm
  replace HBY : Hid (w2.heap[Y]? = some (.cells (wrL 0 0 false (.slice none 0 0) [] 0).toArray 107 (0, 0))) := HBY
  go_enter Try.func49, Try.ntmps49
  go_upto_region 2 with fail
  rw [← hw1, ← HXD.out, ← hw2, heY]
  clear hw1 HXD hw2 HXY heY
  have HI : Hid (WI w w2 R P o c B m s D Y 0 0 0 s []) := ⟨Nat.zero_le _, HR.out, HA.out, fun hb => by have := HRM.out hb; simpa using this, by simp, HBD.out, HBY.out, ⟨rfl, rfl⟩, rfl, by omega, by omega⟩
  clear HR HA HBD HBY
  go_wp2_with fail
  go_loopw [7] (fun v wt => ∃ (i an ac : Nat) (si : Ps) (ps : List Pw), v = .int .i64 (i : Nat) ∧ WI w wt R P o c B m s D Y i an ac si ps) (fun v _ => m - (intOf v).toNat)
  case atStart => exact ⟨0, 0, 0, s, [], rfl, HI.out⟩
  case round =>
    obtain ⟨i, an, ac, si, ps, rfl, hI⟩ := hrel
    have HJ := hid hI
    have him := hI.im
    clear hI HI
    by_cases hlt : i < m
    · have hlti : ((i : Nat) : Int) < (m : Int) := by omega
      have HC := hid (write_ok HJ.out.r an ac (fun hb => by have := HJ.out.room hb; have e : m - i = m - (i + 1) + 1 := by omega
                                                            rw [e] at this; omega) HJ.out.lim.1 HJ.out.lim.2)
      have zx0 : wr.cell? ⟨Y, 0, none⟩ = some (.int .i64 (an : Nat)) := by rw [cell_of_row _ _ _ _ _ _ HJ.out.by_]; simpa using HJ.out.dots.1
      have zx1 : wr.cell? ⟨Y, 1, none⟩ = some (.int .i64 (ac : Nat)) := by rw [cell_of_row _ _ _ _ _ _ HJ.out.by_]; simpa using HJ.out.dots.2
      go_wp2_with fail
      clear zx0 zx1
      refine HC.out.mono ?_
      rintro _ w9 ⟨rfl, r9, a9⟩
      have HS := fun z hz => hid (HJ.out.step hlt r9 a9 HND_R.out HNY_R.out HNY_D.out HNY_P.out HLY.out z hz)
      have HBY9 := hid (keepB a9 HJ.out.by_ HNY_R.out)
      have hx := pwL_len (P := P) (o := o) (writeR_xs B an ac si)
      clear r9 a9 HC
      dsimp only
      unfold pwV
      generalize writeR B an ac si = x at *
      obtain ⟨p, s'⟩ := x
      dsimp only at HS hx ⊢
      rename_i K1 hK1
      refine hK1 _ _ ?_
      clear hK1
      refine wpList_cutat 0 (fun a' w' => Hid (wpList _ _ _ (List.drop 0 _) a' w')) (fun T hT => ?_) (fun _ _ h => h)
      dsimp only [List.take, List.cons_append, List.nil_append, List.append]
      go_wp2_with fail
      refine hT _ _ ?_
      clear hT T
      unfold Hid
      dsimp only [List.drop]
      refine wpList_store_mid rfl 107 (.tmp 5) (.tmp 12) rfl Y 0 (pwL P o p).toArray rfl rfl (there_of HBY9.out _ _ (by rw [List.size_toArray, List.size_toArray, HJ.out.len, hx]; omega)) (by rw [size107, List.size_toArray, hx]) (pwL_one _ _ _) ?_
      obtain ⟨z, hz⟩ : ∃ z, z = w9.setCells Y 0 (pwL P o p) := ⟨_, rfl⟩
      rw [show (pwL P o p).toArray.toList = pwL P o p from rfl, ← hz]
      replace HS := HS z hz
      clear hz HBY9 hx
      go_wp2_with fail
      go_roundw
      case rel => exact ⟨i + 1, p.n, p.c, s', ps ++ [p], by go_num, HS.out⟩
      case measure => simp [intOf]; omega
    · have hlti : ¬ ((i : Nat) : Int) < (m : Int) := by omega
      have hime : i = m := by omega
      have HE2 : Hid (writesR B m 0 0 s = (ps, si)) := by
        unfold Hid
        rw [HJ.out.e, hime, Nat.sub_self]
        show (ps ++ [], si) = _
        rw [List.append_nil]
      have hx := HJ.out.len
      obtain ⟨z, hz⟩ : ∃ z, z = wr.setCells D 0 (lastW P o ps).toArray.toList := ⟨_, rfl⟩
      have b : Apart [D] wr z := by rw [hz]; exact apart_setCells _ _ _ (Apart.refl _ _) (.inl (by simp))
      have HRz := hid (HJ.out.r.kept b (by simp; exact HND_R.out.symm) (by simp; exact HND_P.out))
      have HAz := hid (HJ.out.a.trans' b (by intro y hy; simp at hy; rw [hy]; exact .inr HLD.out))
      have HBz : Hid (z.heap[D]? = some (.cells (lastW P o ps).toArray 107 (0, 0))) := by
        unfold Hid; rw [hz]
        have := heap_setCells_same (lastW P o ps).toArray.toList 0 wr _ HJ.out.bd
        rw [spl_all (by rw [Array.length_toList, List.size_toArray, List.size_toArray, hx, wrL_len (by simp)])] at this
        exact this
      have HTH := hid (there_of HJ.out.bd 0 (lastW P o ps).toArray.size (by rw [List.size_toArray, List.size_toArray, hx, wrL_len (by simp)]; omega))
      have HRG := hid (range_of HJ.out.by_)
      have HI3 : Hid ((Try.prog.info? 107).map (·.size) = some (lastW P o ps).toArray.size) := by unfold Hid; rw [size107, List.size_toArray, hx]
      have HI4 : Hid ((Try.prog.info? 107).map (·.size) = some (lastW P o ps).length) := by unfold Hid; rw [size107, hx]
      have HX := hid hx
      clear b hx
      go_upto_region 6 with fail
      refine wp_region_list ?_
      dsimp only [Array.toList]
      refine wpList_load_mid rfl 107 (.tmp 5) rfl Y 0 rfl (lastW P o ps) _ HRG.out Try.underlying107 rfl HI4.out ?_
      refine wpList_store_mid rfl 107 (.tmp 4) (.tmp 14) rfl D 0 (lastW P o ps).toArray rfl rfl HTH.out HI3.out (lastW_one _ _ _) ?_
      rw [← hz]
      clear hz HTH HRG HI4
      go_wp2_with fail
      refine bodyPost_ret (results_cell_row rfl _ _ D 107 _ _ _ rfl HBz.out Try.underlying107 rfl HI3.out) rfl ?_
      rw [HE2.out]
      exact ⟨⟨rfl, HRz.out, HAz.out⟩, HX.out⟩
end Go.Proofs.Ytllhmidpphlbhaa.ds
namespace Go.Proofs.Ytllhmidpphlbhaa.ds
open Go.ChangeShapes Go.WideShapes Go.ChangeAt Go.RowKit Go.Sort
set_option linter.unusedVariables false
set_option linter.unusedSimpArgs false

/-- where the reader in memory stands -/
def plc (w : World) (R : Nat) : Nat := match w.cell? ⟨R, 1, none⟩, w.cell? ⟨R, 2, none⟩ with
  | some (.int _ n), some (.bool b) => 2 * (4096 - n.toNat) + (if b = true then 0 else 1)
  | _, _ => 0
theorem PR.plc {w : World} {R P o c : Nat} {B : List Nat} {s : Ps} (h : PR w R P o c B s) : plc w R = 2 * (4096 - s.at_) + (if s.bad = true then 0 else 1) := by
  obtain ⟨z0, z1, z2, _, _⟩ := h.cells
  unfold ds.plc
  rw [z1, z2]
  simp
/-- the walk over the zeros -/
structure ZI (w wt : World) (R P o c : Nat) (B : List Nat) (s si : Ps) (f : Nat) : Prop where
  r : PR wt R P o c B si
  a : Apart [R] w wt
  e : zerosR B 2048 s = zerosR B f si
  f : si.bad = false → 2048 ≤ si.at_ + f
set_option maxHeartbeats 8000000 in
set_option maxRecDepth 100000 in
theorem zeros_ok {w : World} {R P o c : Nat} {B : List Nat} {s : Ps} (h : PR w R P o c B s) :
    Calls Try.prog 50 #[.pointer (some ⟨R, 0, none⟩)] w fun e w' => PO w w' R P o c B e (.tuple #[]) (zerosR B 2048 s) := by
  have HI : Hid (ZI w w R P o c B s s 2048) := ⟨h, Apart.refl _ _, rfl, fun _ => by omega⟩
  clear h
  go_enter Try.func50, Try.ntmps50
  go_wp2_with fail
  go_loopw [] (fun wt => ∃ (si : Ps) (f : Nat), ZI w wt R P o c B s si f) (fun wt => plc wt R)
  case atStart => exact ⟨s, 2048, HI.out⟩
  case round =>
    obtain ⟨si, f, hI⟩ := hrel
    have HJ := hid hI
    clear hI HI
    obtain ⟨q, b⟩ := si
    have HC : Hid (∀ W, Apart [] wr W → W.cell? ⟨R, 0, none⟩ = some (.slice (some ⟨P, o, none⟩) 2048 c) ∧ W.cell? ⟨R, 1, none⟩ = some (.int .i64 (q : Nat)) ∧ W.cell? ⟨R, 2, none⟩ = some (.bool b)) := fun W a => by
      have := (HJ.out.r.kept0 a).cells
      exact ⟨this.1, this.2.1, this.2.2.1⟩
    have hq := HJ.out.r.le
    dsimp only at hq
    cases b with
    | true =>
      go_upto_region 0 with fail
      refine wp_region_held_drew (S := fun W => Apart [] wr W) (by kernel_rfl) (Apart.refl [] wr).drew (fun hHeld => ?_)
      have Twd : Hid (Apart [] wr wr.drew) := (Apart.refl [] wr).drew
      generalize wr.drew = wd at *
      refine tk 0 2 (.pointer (some ⟨R, 0, none⟩)) rfl ?_ ?_
      · intro W hSW; go_simp
      simp only [Act.put, List.setIfInBounds_toArray, List.set_cons_zero, List.set_cons_succ]
      refine tk 1 3 (.pointer (some ⟨R, 0, none⟩)) rfl ?_ ?_
      · intro W hSW; go_simp
      simp only [Act.put, List.setIfInBounds_toArray, List.set_cons_zero, List.set_cons_succ]
      refine tk 2 4 (.pointer (some ⟨R, 2, none⟩)) rfl ?_ ?_
      · intro W hSW; go_simp
      simp only [Act.put, List.setIfInBounds_toArray, List.set_cons_zero, List.set_cons_succ]
      refine tk 3 5 (.bool true) rfl ?_ ?_
      · intro W hSW; obtain ⟨z0, z1, z2⟩ := HC.out W hSW; go_simp
      simp only [Act.put, List.setIfInBounds_toArray, List.set_cons_zero, List.set_cons_succ]
      refine tk 4 6 (.bool false) rfl ?_ ?_
      · intro W hSW; go_simp
      simp only [Act.put, List.setIfInBounds_toArray, List.set_cons_zero, List.set_cons_succ]
      refine tk 5 7 (.bool false) rfl ?_ ?_
      · intro W hSW; go_simp
      simp only [Act.put, List.setIfInBounds_toArray, List.set_cons_zero, List.set_cons_succ]
      refine tu 6 8 rfl ?_
      simp only [Act.put, List.setIfInBounds_toArray, List.set_cons_zero, List.set_cons_succ]
      refine tu 7 9 rfl ?_
      simp only [Act.put, List.setIfInBounds_toArray, List.set_cons_zero, List.set_cons_succ]
      refine tu 8 10 rfl ?_
      simp only [Act.put, List.setIfInBounds_toArray, List.set_cons_zero, List.set_cons_succ]
      refine tu 9 11 rfl ?_
      simp only [Act.put, List.setIfInBounds_toArray, List.set_cons_zero, List.set_cons_succ]
      refine tu 10 12 rfl ?_
      simp only [Act.put, List.setIfInBounds_toArray, List.set_cons_zero, List.set_cons_succ]
      refine tu 11 13 rfl ?_
      simp only [Act.put, List.setIfInBounds_toArray, List.set_cons_zero, List.set_cons_succ]
      refine tu 12 14 rfl ?_
      simp only [Act.put, List.setIfInBounds_toArray, List.set_cons_zero, List.set_cons_succ]
      refine tu 13 15 rfl ?_
      simp only [Act.put, List.setIfInBounds_toArray, List.set_cons_zero, List.set_cons_succ]
      refine tu 14 16 rfl ?_
      simp only [Act.put, List.setIfInBounds_toArray, List.set_cons_zero, List.set_cons_succ]
      refine tu 15 17 rfl ?_
      simp only [Act.put, List.setIfInBounds_toArray, List.set_cons_zero, List.set_cons_succ]
      refine tk 16 18 (.bool false) rfl ?_ ?_
      · intro W hSW; go_simp
      simp only [Act.put, List.setIfInBounds_toArray, List.set_cons_zero, List.set_cons_succ]
      refine wpAnyH_done (by kernel_rfl) ?_ _
      clear hHeld
      go_wp2_with fail
      first | go_end0 | skip
      rw [HJ.out.e, zerosR_bad B f rfl]
      exact ⟨rfl, HJ.out.r.kept0 Twd.out, HJ.out.a.trans (Twd.out.mono (by simp))⟩
    | false =>
      by_cases hlt : q < 2048
      · have hlti : ((q : Nat) : Int) < 2048 := by omega
        have hf := HJ.out.f rfl
        dsimp only at hf
        have HN := fun W (hW : PR W R P o c B ⟨q, false⟩) => hid (number_ok hW 1 0 0 ⟨by omega, by omega⟩ (fun _ => by dsimp only; omega) (by omega) (by omega))
        go_upto_region 0 with fail
        refine wp_region_held_drew (S := fun W => Apart [] wr W) (by kernel_rfl) (Apart.refl [] wr).drew (fun hHeld => ?_)
        have Twd : Hid (Apart [] wr wr.drew) := (Apart.refl [] wr).drew
        generalize wr.drew = wd at *
        refine tk 0 2 (.pointer (some ⟨R, 0, none⟩)) rfl ?_ ?_
        · intro W hSW; go_simp
        simp only [Act.put, List.setIfInBounds_toArray, List.set_cons_zero, List.set_cons_succ]
        refine tk 1 3 (.pointer (some ⟨R, 0, none⟩)) rfl ?_ ?_
        · intro W hSW; go_simp
        simp only [Act.put, List.setIfInBounds_toArray, List.set_cons_zero, List.set_cons_succ]
        refine tk 2 4 (.pointer (some ⟨R, 2, none⟩)) rfl ?_ ?_
        · intro W hSW; go_simp
        simp only [Act.put, List.setIfInBounds_toArray, List.set_cons_zero, List.set_cons_succ]
        refine tk 3 5 (.bool false) rfl ?_ ?_
        · intro W hSW; obtain ⟨z0, z1, z2⟩ := HC.out W hSW; go_simp
        simp only [Act.put, List.setIfInBounds_toArray, List.set_cons_zero, List.set_cons_succ]
        refine tk 4 6 (.bool true) rfl ?_ ?_
        · intro W hSW; go_simp
        simp only [Act.put, List.setIfInBounds_toArray, List.set_cons_zero, List.set_cons_succ]
        refine tk 5 7 (.bool true) rfl ?_ ?_
        · intro W hSW; go_simp
        simp only [Act.put, List.setIfInBounds_toArray, List.set_cons_zero, List.set_cons_succ]
        refine tk 6 8 (.pointer (some ⟨R, 0, none⟩)) rfl ?_ ?_
        · intro W hSW; go_simp
        simp only [Act.put, List.setIfInBounds_toArray, List.set_cons_zero, List.set_cons_succ]
        refine tk 7 9 (.pointer (some ⟨R, 0, none⟩)) rfl ?_ ?_
        · intro W hSW; go_simp
        simp only [Act.put, List.setIfInBounds_toArray, List.set_cons_zero, List.set_cons_succ]
        refine tk 8 10 (.pointer (some ⟨R, 1, none⟩)) rfl ?_ ?_
        · intro W hSW; go_simp
        simp only [Act.put, List.setIfInBounds_toArray, List.set_cons_zero, List.set_cons_succ]
        refine tk 9 11 (.int .i64 (q : Nat)) rfl ?_ ?_
        · intro W hSW; obtain ⟨z0, z1, z2⟩ := HC.out W hSW; go_simp
        simp only [Act.put, List.setIfInBounds_toArray, List.set_cons_zero, List.set_cons_succ]
        refine tk 10 12 (.pointer (some ⟨R, 0, none⟩)) rfl ?_ ?_
        · intro W hSW; go_simp
        simp only [Act.put, List.setIfInBounds_toArray, List.set_cons_zero, List.set_cons_succ]
        refine tk 11 13 (.pointer (some ⟨R, 0, none⟩)) rfl ?_ ?_
        · intro W hSW; go_simp
        simp only [Act.put, List.setIfInBounds_toArray, List.set_cons_zero, List.set_cons_succ]
        refine tk 12 14 (.pointer (some ⟨R, 0, none⟩)) rfl ?_ ?_
        · intro W hSW; go_simp
        simp only [Act.put, List.setIfInBounds_toArray, List.set_cons_zero, List.set_cons_succ]
        refine tk 13 15 (.slice (some ⟨P, o, none⟩) 2048 c) rfl ?_ ?_
        · intro W hSW; obtain ⟨z0, z1, z2⟩ := HC.out W hSW; go_simp
        simp only [Act.put, List.setIfInBounds_toArray, List.set_cons_zero, List.set_cons_succ]
        refine tk 14 16 (.int .i64 2048) rfl ?_ ?_
        · intro W hSW; go_simp
        simp only [Act.put, List.setIfInBounds_toArray, List.set_cons_zero, List.set_cons_succ]
        refine tk 15 17 (.bool true) rfl ?_ ?_
        · intro W hSW; go_simp
        simp only [Act.put, List.setIfInBounds_toArray, List.set_cons_zero, List.set_cons_succ]
        refine tk 16 18 (.bool true) rfl ?_ ?_
        · intro W hSW; go_simp
        simp only [Act.put, List.setIfInBounds_toArray, List.set_cons_zero, List.set_cons_succ]
        refine wpAnyH_done (by kernel_rfl) ?_ _
        clear hHeld
        go_wp2_with fail
        refine (HN _ (HJ.out.r.kept0 Twd.out)).out.mono ?_
        rintro _ w1 ⟨rfl, r1, a1⟩
        have HR1 := hid r1
        have HA1 := hid ((HJ.out.a.trans (Twd.out.mono (by simp))).trans a1)
        have HB1 := hid HJ.out.r.plc
        have HB2 := hid r1.plc
        clear r1 a1 HN
        dsimp only
        obtain ⟨f', rfl⟩ : ∃ f', f = f' + 1 := ⟨f - 1, by omega⟩
        have HE : Hid (zerosR B 2048 s = zerosR B f' (num B 1 0 0 ⟨q, false⟩).2) := by
          unfold Hid
          rw [HJ.out.e]
          show (if _ then _ else _) = _
          rw [if_pos ⟨rfl, hlt⟩]
        have h1 := num_at B 1 0 0 ⟨q, false⟩
        have h2 := num_ok B 1 0 0 ⟨q, false⟩
        generalize num B 1 0 0 ⟨q, false⟩ = x at *
        obtain ⟨n, q', b'⟩ := x
        dsimp only at h1 h2 HE HB1 HB2 HR1
        go_wp2_with fail
        go_roundw
        case rel => exact ⟨⟨q', b'⟩, f', HR1.out, HA1.out, HE.out, fun hb => by
          dsimp only at hb ⊢
          have := (h2 hb).2.1
          simp only [Prod.mk.injEq, Ps.mk.injEq] at this
          omega⟩
        case measure =>
          rw [HB1.out, HB2.out]
          cases b' with
          | true => simp; omega
          | false =>
            have := (h2 rfl).2.1
            simp only [Prod.mk.injEq, Ps.mk.injEq] at this
            simp; omega
      · have hlti : ¬ ((q : Nat) : Int) < 2048 := by omega
        go_upto_region 0 with fail
        refine wp_region_held_drew (S := fun W => Apart [] wr W) (by kernel_rfl) (Apart.refl [] wr).drew (fun hHeld => ?_)
        have Twd : Hid (Apart [] wr wr.drew) := (Apart.refl [] wr).drew
        generalize wr.drew = wd at *
        refine tk 0 2 (.pointer (some ⟨R, 0, none⟩)) rfl ?_ ?_
        · intro W hSW; go_simp
        simp only [Act.put, List.setIfInBounds_toArray, List.set_cons_zero, List.set_cons_succ]
        refine tk 1 3 (.pointer (some ⟨R, 0, none⟩)) rfl ?_ ?_
        · intro W hSW; go_simp
        simp only [Act.put, List.setIfInBounds_toArray, List.set_cons_zero, List.set_cons_succ]
        refine tk 2 4 (.pointer (some ⟨R, 2, none⟩)) rfl ?_ ?_
        · intro W hSW; go_simp
        simp only [Act.put, List.setIfInBounds_toArray, List.set_cons_zero, List.set_cons_succ]
        refine tk 3 5 (.bool false) rfl ?_ ?_
        · intro W hSW; obtain ⟨z0, z1, z2⟩ := HC.out W hSW; go_simp
        simp only [Act.put, List.setIfInBounds_toArray, List.set_cons_zero, List.set_cons_succ]
        refine tk 4 6 (.bool true) rfl ?_ ?_
        · intro W hSW; go_simp
        simp only [Act.put, List.setIfInBounds_toArray, List.set_cons_zero, List.set_cons_succ]
        refine tk 5 7 (.bool true) rfl ?_ ?_
        · intro W hSW; go_simp
        simp only [Act.put, List.setIfInBounds_toArray, List.set_cons_zero, List.set_cons_succ]
        refine tk 6 8 (.pointer (some ⟨R, 0, none⟩)) rfl ?_ ?_
        · intro W hSW; go_simp
        simp only [Act.put, List.setIfInBounds_toArray, List.set_cons_zero, List.set_cons_succ]
        refine tk 7 9 (.pointer (some ⟨R, 0, none⟩)) rfl ?_ ?_
        · intro W hSW; go_simp
        simp only [Act.put, List.setIfInBounds_toArray, List.set_cons_zero, List.set_cons_succ]
        refine tk 8 10 (.pointer (some ⟨R, 1, none⟩)) rfl ?_ ?_
        · intro W hSW; go_simp
        simp only [Act.put, List.setIfInBounds_toArray, List.set_cons_zero, List.set_cons_succ]
        refine tk 9 11 (.int .i64 (q : Nat)) rfl ?_ ?_
        · intro W hSW; obtain ⟨z0, z1, z2⟩ := HC.out W hSW; go_simp
        simp only [Act.put, List.setIfInBounds_toArray, List.set_cons_zero, List.set_cons_succ]
        refine tk 10 12 (.pointer (some ⟨R, 0, none⟩)) rfl ?_ ?_
        · intro W hSW; go_simp
        simp only [Act.put, List.setIfInBounds_toArray, List.set_cons_zero, List.set_cons_succ]
        refine tk 11 13 (.pointer (some ⟨R, 0, none⟩)) rfl ?_ ?_
        · intro W hSW; go_simp
        simp only [Act.put, List.setIfInBounds_toArray, List.set_cons_zero, List.set_cons_succ]
        refine tk 12 14 (.pointer (some ⟨R, 0, none⟩)) rfl ?_ ?_
        · intro W hSW; go_simp
        simp only [Act.put, List.setIfInBounds_toArray, List.set_cons_zero, List.set_cons_succ]
        refine tk 13 15 (.slice (some ⟨P, o, none⟩) 2048 c) rfl ?_ ?_
        · intro W hSW; obtain ⟨z0, z1, z2⟩ := HC.out W hSW; go_simp
        simp only [Act.put, List.setIfInBounds_toArray, List.set_cons_zero, List.set_cons_succ]
        refine tk 14 16 (.int .i64 2048) rfl ?_ ?_
        · intro W hSW; go_simp
        simp only [Act.put, List.setIfInBounds_toArray, List.set_cons_zero, List.set_cons_succ]
        refine tk 15 17 (.bool false) rfl ?_ ?_
        · intro W hSW; go_simp
        simp only [Act.put, List.setIfInBounds_toArray, List.set_cons_zero, List.set_cons_succ]
        refine tk 16 18 (.bool false) rfl ?_ ?_
        · intro W hSW; go_simp
        simp only [Act.put, List.setIfInBounds_toArray, List.set_cons_zero, List.set_cons_succ]
        refine wpAnyH_done (by kernel_rfl) ?_ _
        clear hHeld
        go_wp2_with fail
        first | go_end0 | skip
        have HE : Hid (zerosR B f ⟨q, false⟩ = ⟨q, false⟩) := by
          unfold Hid
          cases f with
          | zero => rfl
          | succ f => show (if _ then _ else _) = _; rw [if_neg (fun h => hlt h.2)]
        rw [HJ.out.e, HE.out]
        exact ⟨rfl, HJ.out.r.kept0 Twd.out, HJ.out.a.trans (Twd.out.mono (by simp))⟩
end Go.Proofs.Ytllhmidpphlbhaa.ds
