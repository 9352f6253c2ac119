import Derived.Deep.RegionHeld
import Derived.OrdersHeld
import Derived.WalkKit
import Derived.ProofKit
import Derived.Lib.TrailingZeros
import Derived.Test.YtllhmidpphlbhaaChecked
import Derived.OpenShut
import Derived.Deep.QuietTactic
import Derived.BigQuiet
import Derived.BigRegion
import Derived.Laws.CopyOwn
import Derived.Laws.Bits64b
import Derived.Laws.MathBits
import Derived.Laws.ShiftsVarLaws
import Derived.WalkSmall
import Derived.Laws.ResultCell
import Derived.Lib.BitFns
import Derived.Laws.StructEq
import Derived.ArgAppend
import Derived.Deep.RegionLaw
import Derived.Deep.DeepAppendRoom
import Derived.Sort.WalkA
import Derived.Laws.Strings
import Derived.Deep.CutBlock
import Derived.Great.BuildSlice
import Derived.Laws.AppendOwnNone
import Derived.Lib.Overlaps
import Derived.Lib.AppendZerosOnto
import Derived.Laws.NewBlocks
import Derived.Laws.Externs
import Derived.Laws.IdiomCopy
import Derived.Laws.BytesString
import Derived.Deep.CutRange
import Derived.RangeFuncNested
import Derived.RangeFuncBound
import Derived.RangeFuncCalls
import Derived.RangeFuncLeaves
import Derived.Shelf.Abstract
import Derived.Shelf.RegionOpen
import Derived.OwnWalkIn
import Derived.TacticsInMore
import Derived.LoopNIn
import Derived.LoopIn
import GoSem.Claim
import GoSem.ClaimJoined
import GoSem.ClaimMapViews
import Derived.JoinedTies
import Derived.KernelRfl
import Derived.Deep.OwnRows
import Derived.Lib.LaidTab
import Derived.JoinedCond
import Derived.ShutString
import Derived.ChangeOld
import Derived.Below
import Derived.Carry
import Derived.ChangeSlices
import Derived.Deep.Slices
import Derived.Deep.DeepHandedRow
import Derived.RowKit
import Derived.ChangeShapes
import Derived.SizedLaws
import Derived.ChangeMaps5
import Derived.Lib.Walk
import Derived.Lib.SliceRun
import Derived.Lib.AppendStr
import Derived.Lib.ConvBytes
import Derived.Deep.RegionHeld3
import Derived.Deep.MidRow
import Derived.Laws.MakeOwn
import Derived.Lib.SlBytesConst
import Derived.Test.YtllhmidpphlbhaaRows
import Derived.Test.YtllhmidpphlbhaaF34
namespace Go.Proofs.Ytllhmidpphlbhaa.ds
open Go.ChangeShapes Go.WideShapes Go.ChangeAt Go.RowKit Go.Sort
set_option linter.unusedVariables false
set_option linter.unusedSimpArgs false

/-- the key of a head -/
def keyV (P o : Nat) (h : Ph) : Value := if h.k = 2 ∨ h.k = 3 then tsl P o (h.kb, h.kn) else .slice none 0 0
/-- a head as a value -/
def hdL (k g ow m : Nat) (v : Value) : List Value := [.int .i64 (k : Nat), .int .i64 (g : Nat), .int .i64 (ow : Nat), .int .i64 (m : Nat), v]
def hdV (P o : Nat) (h : Ph) : Value := .agg (hdL h.k h.g h.o h.m (keyV P o h)).toArray
theorem size99 : (Try.prog.info? 99).map (·.size) = some 5 := by kernel_rfl
theorem hdL_one (k g ow m : Nat) (v : Value) (hv : v.oneCell' = true) : (hdL k g ow m v).toArray.all (·.oneCell') = true := by
  refine all_oneCell_toArray (fun u hu => ?_)
  unfold hdL at hu
  simp only [List.mem_cons, List.not_mem_nil, or_false] at hu
  rcases hu with h | h | h | h | h <;> rw [h]
  · rfl
  · rfl
  · rfl
  · rfl
  · exact hv
theorem hdL_1 (k g ow m : Nat) (v : Value) (g' : Nat) : (hdL k g ow m v).toArray.setIfInBounds 1 (.int .i64 (g' : Nat)) = (hdL k g' ow m v).toArray := by unfold hdL; simp
theorem hdL_2 (k g ow m : Nat) (v : Value) (g' : Nat) : (hdL k g ow m v).toArray.setIfInBounds 2 (.int .i64 (g' : Nat)) = (hdL k g g' m v).toArray := by unfold hdL; simp
theorem hdL_3 (k g ow m : Nat) (v : Value) (g' : Nat) : (hdL k g ow m v).toArray.setIfInBounds 3 (.int .i64 (g' : Nat)) = (hdL k g ow g' v).toArray := by unfold hdL; simp
theorem hdL_4 (k g ow m : Nat) (v v' : Value) : (hdL k g ow m v).toArray.setIfInBounds 4 v' = (hdL k g ow m v').toArray := by unfold hdL; simp
theorem cells_hd {w : World} {Y k g ow m : Nat} {v : Value} {t : TypeId} (h : w.heap[Y]? = some (.cells (hdL k g ow m v).toArray t (0, 0))) : w.cell? ⟨Y, 0, none⟩ = some (.int .i64 (k : Nat)) ∧ w.cell? ⟨Y, 1, none⟩ = some (.int .i64 (g : Nat)) ∧ w.cell? ⟨Y, 2, none⟩ = some (.int .i64 (ow : Nat)) ∧ w.cell? ⟨Y, 3, none⟩ = some (.int .i64 (m : Nat)) ∧ w.cell? ⟨Y, 4, none⟩ = some v := by
  refine ⟨?_, ?_, ?_, ?_, ?_⟩ <;> (rw [cell_of_row _ _ _ _ _ _ h]; rfl)
set_option maxHeartbeats 8000000 in
set_option maxRecDepth 100000 in
theorem head_ok {w : World} {R P o c : Nat} {B : List Nat} {s : Ps} (h : PR w R P o c B s) (hr : s.bad = false → s.at_ + 19 ≤ 2048) :
    Calls Try.prog 47 #[.pointer (some ⟨R, 0, none⟩)] w fun e w' => PO w w' R P o c B e (hdV P o (headR B s).1) (headR B s).2 := by
  have HR := hid h
  have HA : Hid (Apart [R] w w) := Apart.refl _ _
  obtain ⟨a, Ha⟩ : ∃ a, Hid (a = num B 1 1 3 s) := ⟨_, rfl⟩
  have a1 := num_at B 1 1 3 s
  have a2 := num_le B 1 1 3 s
  have a3 := @num_ok1 B 1 1 3 s
  rw [← Ha.out] at a1 a2 a3
  have HC1 := fun W (hW : PR W R P o c B s) => hid (number_ok hW 1 1 3 ⟨by omega, by omega⟩ (fun hb => by have := hr hb; omega) (by omega) (by omega))
  rw [← Ha.out] at HC1
  have HRM : Hid (a.2.bad = false → a.2.at_ + 18 ≤ 2048) := fun hb => by have := hr (a3 hb); omega
  have HE : Hid (headR B s = if a.1 = 1 then (⟨a.1, (num B 6 0 281474976710655 a.2).1, 0, (num B 1 0 16 (num B 6 0 281474976710655 a.2).2).1, 0, 0⟩, (num B 1 0 16 (num B 6 0 281474976710655 a.2).2).2) else if a.1 = 2 then (⟨a.1, 0, 0, (num B 1 1 8 (textR B 1 16 a.2).2).1, (textR B 1 16 a.2).1.1, (textR B 1 16 a.2).1.2⟩, (num B 1 1 8 (textR B 1 16 a.2).2).2) else if a.1 = 3 then (⟨a.1, 0, (num B 1 0 7 a.2).1, 1, (textR B 1 16 (num B 1 0 7 a.2).2).1.1, (textR B 1 16 (num B 1 0 7 a.2).2).1.2⟩, (textR B 1 16 (num B 1 0 7 a.2).2).2) else (⟨a.1, 0, 0, 0, 0, 0⟩, a.2)) := by
    unfold Hid headR
    dsimp only
    rw [← Ha.out]
  clear h hr a1 a2 a3 Ha
  obtain ⟨k, a2⟩ := a
  dsimp only at HC1 HRM HE
  obtain ⟨D, HXD⟩ : ∃ X, Hid (X = w.heap.size) := ⟨_, rfl⟩
  obtain ⟨w1, hw1⟩ : ∃ W, W = w.alloc (.cells #[.int .i64 0, .int .i64 0, .int .i64 0, .int .i64 0, .slice none 0 0] 99) := ⟨_, rfl⟩
  have HSw1 : Hid (Apart [] w w1) := by unfold Hid; rw [hw1]; exact (Apart.refl [] w).alloc _
  have HBD : Hid (w1.heap[D]? = some (.cells #[.int .i64 0, .int .i64 0, .int .i64 0, .int .i64 0, .slice none 0 0] 99 (0, 0))) := by unfold Hid; rw [HXD.out, hw1]; exact heap_alloc_new w _
  have HND_R : Hid (D ≠ R) := by unfold Hid; have := lt_of_heap HR.out.blk; rw [HXD.out]; omega
  have HND_P : Hid (P ≠ D) := by unfold Hid; have := HR.out.lt; rw [HXD.out]; omega
  have HLD : Hid (w.heap.size ≤ D) := by unfold Hid; rw [HXD.out]; exact HA.out.size
  replace HR := hid (HR.out.kept0 HSw1.out)
  replace HA := hid (HA.out.trans (HSw1.out.mono (by simp)))
  replace HBD : Hid (w1.heap[D]? = some (.cells (hdL 0 0 0 0 (.slice none 0 0)).toArray 99 (0, 0))) := HBD
  go_enter Try.func47, Try.ntmps47
  go_wp2_with fail
  rw [← hw1, ← HXD.out]
  clear hw1 HXD
  refine ((HC1 _ HR.out).out).mono ?_
  rintro _ w2 ⟨rfl, rw2, aw2⟩
  have HSw2 := hid aw2
  replace HR := hid rw2
  replace HA := hid (HA.out.trans aw2)
  clear rw2 aw2
  replace HBD := hid (keepB HSw2.out HBD.out HND_R.out)
  dsimp only
  clear HC1
  obtain ⟨Y, HXY⟩ : ∃ X, Hid (X = w2.heap.size) := ⟨_, rfl⟩
  obtain ⟨w3, hw3⟩ : ∃ W, W = w2.alloc (.cells #[.int .i64 (k : Nat), .int .i64 0, .int .i64 0, .int .i64 0, .slice none 0 0] 99) := ⟨_, rfl⟩
  have HSw3 : Hid (Apart [] w2 w3) := by unfold Hid; rw [hw3]; exact (Apart.refl [] w2).alloc _
  have HBY : Hid (w3.heap[Y]? = some (.cells #[.int .i64 (k : Nat), .int .i64 0, .int .i64 0, .int .i64 0, .slice none 0 0] 99 (0, 0))) := by unfold Hid; rw [HXY.out, hw3]; exact heap_alloc_new w2 _
  have HNY_R : Hid (Y ≠ R) := by unfold Hid; have := lt_of_heap HR.out.blk; rw [HXY.out]; omega
  have HNY_P : Hid (P ≠ Y) := by unfold Hid; have := HR.out.lt; rw [HXY.out]; omega
  have HNY_D : Hid (Y ≠ D) := by unfold Hid; have := lt_of_heap HBD.out; rw [HXY.out]; omega
  have HLY : Hid (w.heap.size ≤ Y) := by unfold Hid; rw [HXY.out]; exact HA.out.size
  replace HR := hid (HR.out.kept0 HSw3.out)
  replace HA := hid (HA.out.trans (HSw3.out.mono (by simp)))
  replace HBD := hid (keep0 HSw3.out HBD.out)
  replace HBY : Hid (w3.heap[Y]? = some (.cells (hdL k 0 0 0 (.slice none 0 0)).toArray 99 (0, 0))) := HBY
  go_upto_region 2 with fail
  rw [← hw3, ← HXY.out]
  clear hw3 HXY
  obtain ⟨y0, y1, y2, y3, y4⟩ := cells_hd HBY.out
  by_cases k1 : k = 1
  · have HE2 : Hid (headR B s = (⟨k, (num B 6 0 281474976710655 a2).1, 0, (num B 1 0 16 (num B 6 0 281474976710655 a2).2).1, 0, 0⟩, (num B 1 0 16 (num B 6 0 281474976710655 a2).2).2)) := by unfold Hid; rw [HE.out, if_pos k1]
    have b1 := num_at B 6 0 281474976710655 a2
    have b3 := @num_ok1 B 6 0 281474976710655 a2
    have HC2 := fun W (hW : PR W R P o c B a2) => hid (number_ok hW 6 0 281474976710655 ⟨by omega, by omega⟩ (fun hb => by have := HRM.out hb; omega) (by omega) (by omega))
    have HC3 := fun W (hW : PR W R P o c B (num B 6 0 281474976710655 a2).2) => hid (number_ok hW 1 0 16 ⟨by omega, by omega⟩ (fun hb => by have := HRM.out (b3 hb); omega) (by omega) (by omega))
    clear b1 b3 HE HRM
    generalize num B 6 0 281474976710655 a2 = g at *
    generalize num B 1 0 16 g.2 = m at *
    obtain ⟨g, g2⟩ := g
    obtain ⟨m, m2⟩ := m
    dsimp only at HE2 HC2 HC3
    subst k1
    go_wp2_with fail
    clear y0 y1 y2 y3 y4
    refine ((HC2 _ HR.out).out).mono ?_
    rintro _ w4 ⟨rfl, rw4, aw4⟩
    have HSw4 := hid aw4
    replace HR := hid rw4
    replace HA := hid (HA.out.trans aw4)
    clear rw4 aw4
    replace HBD := hid (keepB HSw4.out HBD.out HND_R.out)
    replace HBY := hid (keepB HSw4.out HBY.out HNY_R.out)
    dsimp only
    obtain ⟨w5, hw5⟩ : ∃ W, W = w4.setCell ⟨Y, 1, none⟩ (.int .i64 (g : Nat)) := ⟨_, rfl⟩
    have HSw5 : Hid (Apart [Y] w4 w5) := by unfold Hid; rw [hw5]; exact (Apart.refl _ _).setCell (.inl (by simp)) _
    obtain ⟨y0, y1, y2, y3, y4⟩ := cells_hd HBY.out
    have fy := frozen_of_row _ _ 1 _ _ HBY.out
    replace HBY : Hid (w5.heap[Y]? = some (.cells (hdL 1 g 0 0 (.slice none 0 0)).toArray 99 (0, 0))) := by unfold Hid; rw [hw5, ← hdL_1 1 0 0 0 (.slice none 0 0)]; exact heap_setCell_same w4 Y 1 _ 99 _ HBY.out
    replace HR := hid (HR.out.kept HSw5.out (by simp; exact HNY_R.out.symm) (by simp; exact HNY_P.out))
    replace HA := hid (HA.out.trans' HSw5.out (by intro y hy; simp at hy; rw [hy]; exact .inr HLY.out))
    replace HBD := hid (keepB HSw5.out HBD.out HNY_D.out.symm)
    go_upto_region 5 with fail
    rw [← hw5]
    clear hw5 y0 y1 y2 y3 y4 fy
    go_wp2_with fail
    refine ((HC3 _ HR.out).out).mono ?_
    rintro _ w6 ⟨rfl, rw6, aw6⟩
    have HSw6 := hid aw6
    replace HR := hid rw6
    replace HA := hid (HA.out.trans aw6)
    clear rw6 aw6
    replace HBD := hid (keepB HSw6.out HBD.out HND_R.out)
    replace HBY := hid (keepB HSw6.out HBY.out HNY_R.out)
    dsimp only
    obtain ⟨w7, hw7⟩ : ∃ W, W = w6.setCell ⟨Y, 3, none⟩ (.int .i64 (m : Nat)) := ⟨_, rfl⟩
    have HSw7 : Hid (Apart [Y] w6 w7) := by unfold Hid; rw [hw7]; exact (Apart.refl _ _).setCell (.inl (by simp)) _
    obtain ⟨y0, y1, y2, y3, y4⟩ := cells_hd HBY.out
    have fy := frozen_of_row _ _ 3 _ _ HBY.out
    replace HBY : Hid (w7.heap[Y]? = some (.cells (hdL 1 g 0 m (.slice none 0 0)).toArray 99 (0, 0))) := by unfold Hid; rw [hw7, ← hdL_3 1 g 0 0 (.slice none 0 0)]; exact heap_setCell_same w6 Y 3 _ 99 _ HBY.out
    replace HR := hid (HR.out.kept HSw7.out (by simp; exact HNY_R.out.symm) (by simp; exact HNY_P.out))
    replace HA := hid (HA.out.trans' HSw7.out (by intro y hy; simp at hy; rw [hy]; exact .inr HLY.out))
    replace HBD := hid (keepB HSw7.out HBD.out HNY_D.out.symm)
    have HV1 : Hid ((Value.slice none 0 0).oneCell' = true) := rfl
    go_upto_region 13 with fail
    rw [← hw7]
    clear hw7 y0 y1 y2 y3 y4 fy
    obtain ⟨z, hz⟩ : ∃ z, z = w7.setCells D 0 (hdL 1 g 0 m (.slice none 0 0)).toArray.toList := ⟨_, rfl⟩
    have b : Apart [D] w7 z := by rw [hz]; exact apart_setCells _ _ _ (Apart.refl _ _) (.inl (by simp))
    replace HR := hid (HR.out.kept b (by simp; exact HND_R.out.symm) (by simp; exact HND_P.out))
    replace HA := hid (HA.out.trans' b (by intro y hy; simp at hy; rw [hy]; exact .inr HLD.out))
    have HBz : Hid (z.heap[D]? = some (.cells (hdL 1 g 0 m (.slice none 0 0)).toArray 99 (0, 0))) := by
      unfold Hid; rw [hz]
      have := heap_setCells_same (hdL 1 g 0 m (.slice none 0 0)).toArray.toList 0 w7 _ HBD.out
      rw [spl_all (by rfl)] at this
      exact this
    refine wp_region_list ?_
    dsimp only [Array.toList]
    refine wpList_load_mid rfl 99 (.tmp 3) rfl Y 0 rfl (hdL 1 g 0 m (.slice none 0 0)) _ (range_of HBY.out) Try.underlying99 rfl size99 ?_
    refine wpList_store_mid rfl 99 (.tmp 2) (.tmp 34) rfl D 0 (hdL 1 g 0 m (.slice none 0 0)).toArray rfl rfl (there_of HBD.out _ _ (by show 0 + 5 ≤ 5; omega)) size99 (hdL_one _ _ _ _ _ HV1.out) ?_
    rw [← hz]
    clear hz b
    go_wp2_with fail
    refine bodyPost_ret (results_cell_row rfl _ _ D 99 _ _ _ rfl HBz.out Try.underlying99 rfl size99) rfl ?_
    rw [HE2.out]
    exact ⟨rfl, HR.out, HA.out⟩
  · have k1i : ¬ ((k : Nat) : Int) = 1 := by omega
    by_cases k2 : k = 2
    · have HE2 : Hid (headR B s = (⟨k, 0, 0, (num B 1 1 8 (textR B 1 16 a2).2).1, (textR B 1 16 a2).1.1, (textR B 1 16 a2).1.2⟩, (num B 1 1 8 (textR B 1 16 a2).2).2)) := by unfold Hid; rw [HE.out, if_neg k1, if_pos k2]
      have b1 := textR_at B 1 16 a2
      have b3 := @textR_ok1 B 1 16 a2
      have HC2 := fun W (hW : PR W R P o c B a2) => hid (text_ok hW 1 16 (fun hb => by have := HRM.out hb; omega) (by omega) (by omega))
      have HC3 := fun W (hW : PR W R P o c B (textR B 1 16 a2).2) => hid (number_ok hW 1 1 8 ⟨by omega, by omega⟩ (fun hb => by have := HRM.out (b3 hb); omega) (by omega) (by omega))
      clear b1 b3 HE HRM
      generalize textR B 1 16 a2 = g at *
      generalize num B 1 1 8 g.2 = m at *
      obtain ⟨g, g2⟩ := g
      obtain ⟨m, m2⟩ := m
      dsimp only at HE2 HC2 HC3
      subst k2
      clear k1
      go_wp2_with fail
      clear y0 y1 y2 y3 y4
      refine ((HC2 _ HR.out).out).mono ?_
      rintro _ w4 ⟨rfl, rw4, aw4⟩
      have HSw4 := hid aw4
      replace HR := hid rw4
      replace HA := hid (HA.out.trans aw4)
      clear rw4 aw4
      replace HBD := hid (keepB HSw4.out HBD.out HND_R.out)
      replace HBY := hid (keepB HSw4.out HBY.out HNY_R.out)
      dsimp only
      obtain ⟨v, Hv⟩ : ∃ v, Hid (v = tsl P o g) := ⟨_, rfl⟩
      have HV1 : Hid (v.oneCell' = true) := by unfold Hid; rw [Hv.out]; rfl
      have HVS : Hid (∃ q, v = .slice q g.2 g.2) := ⟨_, Hv.out⟩
      rw [← Hv.out]
      obtain ⟨q, hvq⟩ := HVS.out
      subst hvq
      obtain ⟨w5, hw5⟩ : ∃ W, W = w4.setCell ⟨Y, 4, none⟩ (.slice q g.2 g.2) := ⟨_, rfl⟩
      have HSw5 : Hid (Apart [Y] w4 w5) := by unfold Hid; rw [hw5]; exact (Apart.refl _ _).setCell (.inl (by simp)) _
      obtain ⟨y0, y1, y2, y3, y4⟩ := cells_hd HBY.out
      have fy := frozen_of_row _ _ 4 _ _ HBY.out
      replace HBY : Hid (w5.heap[Y]? = some (.cells (hdL 2 0 0 0 (.slice q g.2 g.2)).toArray 99 (0, 0))) := by unfold Hid; rw [hw5, ← hdL_4 2 0 0 0 (.slice none 0 0)]; exact heap_setCell_same w4 Y 4 _ 99 _ HBY.out
      replace HR := hid (HR.out.kept HSw5.out (by simp; exact HNY_R.out.symm) (by simp; exact HNY_P.out))
      replace HA := hid (HA.out.trans' HSw5.out (by intro y hy; simp at hy; rw [hy]; exact .inr HLY.out))
      replace HBD := hid (keepB HSw5.out HBD.out HNY_D.out.symm)
      go_upto_region 8 with fail
      rw [← hw5]
      clear hw5 y0 y1 y2 y3 y4 fy
      go_wp2_with fail
      refine ((HC3 _ HR.out).out).mono ?_
      rintro _ w6 ⟨rfl, rw6, aw6⟩
      have HSw6 := hid aw6
      replace HR := hid rw6
      replace HA := hid (HA.out.trans aw6)
      clear rw6 aw6
      replace HBD := hid (keepB HSw6.out HBD.out HND_R.out)
      replace HBY := hid (keepB HSw6.out HBY.out HNY_R.out)
      dsimp only
      obtain ⟨w7, hw7⟩ : ∃ W, W = w6.setCell ⟨Y, 3, none⟩ (.int .i64 (m : Nat)) := ⟨_, rfl⟩
      have HSw7 : Hid (Apart [Y] w6 w7) := by unfold Hid; rw [hw7]; exact (Apart.refl _ _).setCell (.inl (by simp)) _
      obtain ⟨y0, y1, y2, y3, y4⟩ := cells_hd HBY.out
      have fy := frozen_of_row _ _ 3 _ _ HBY.out
      replace HBY : Hid (w7.heap[Y]? = some (.cells (hdL 2 0 0 m (.slice q g.2 g.2)).toArray 99 (0, 0))) := by unfold Hid; rw [hw7, ← hdL_3 2 0 0 0 (.slice q g.2 g.2)]; exact heap_setCell_same w6 Y 3 _ 99 _ HBY.out
      replace HR := hid (HR.out.kept HSw7.out (by simp; exact HNY_R.out.symm) (by simp; exact HNY_P.out))
      replace HA := hid (HA.out.trans' HSw7.out (by intro y hy; simp at hy; rw [hy]; exact .inr HLY.out))
      replace HBD := hid (keepB HSw7.out HBD.out HNY_D.out.symm)
      go_upto_region 13 with fail
      rw [← hw7]
      clear hw7 y0 y1 y2 y3 y4 fy
      obtain ⟨z, hz⟩ : ∃ z, z = w7.setCells D 0 (hdL 2 0 0 m (.slice q g.2 g.2)).toArray.toList := ⟨_, rfl⟩
      have b : Apart [D] w7 z := by rw [hz]; exact apart_setCells _ _ _ (Apart.refl _ _) (.inl (by simp))
      replace HR := hid (HR.out.kept b (by simp; exact HND_R.out.symm) (by simp; exact HND_P.out))
      replace HA := hid (HA.out.trans' b (by intro y hy; simp at hy; rw [hy]; exact .inr HLD.out))
      have HBz : Hid (z.heap[D]? = some (.cells (hdL 2 0 0 m (.slice q g.2 g.2)).toArray 99 (0, 0))) := by
        unfold Hid; rw [hz]
        have := heap_setCells_same (hdL 2 0 0 m (.slice q g.2 g.2)).toArray.toList 0 w7 _ HBD.out
        rw [spl_all (by rfl)] at this
        exact this
      refine wp_region_list ?_
      dsimp only [Array.toList]
      refine wpList_load_mid rfl 99 (.tmp 3) rfl Y 0 rfl (hdL 2 0 0 m (.slice q g.2 g.2)) _ (range_of HBY.out) Try.underlying99 rfl size99 ?_
      refine wpList_store_mid rfl 99 (.tmp 2) (.tmp 34) rfl D 0 (hdL 2 0 0 m (.slice q g.2 g.2)).toArray rfl rfl (there_of HBD.out _ _ (by show 0 + 5 ≤ 5; omega)) size99 (hdL_one _ _ _ _ _ HV1.out) ?_
      rw [← hz]
      clear hz b
      go_wp2_with fail
      refine bodyPost_ret (results_cell_row rfl _ _ D 99 _ _ _ rfl HBz.out Try.underlying99 rfl size99) rfl ?_
      rw [HE2.out]
      exact ⟨by unfold hdV keyV; dsimp only; rw [if_pos (.inl rfl), ← Hv.out], HR.out, HA.out⟩
    · have k2i : ¬ ((k : Nat) : Int) = 2 := by omega
      by_cases k3 : k = 3
      · have HE2 : Hid (headR B s = (⟨k, 0, (num B 1 0 7 a2).1, 1, (textR B 1 16 (num B 1 0 7 a2).2).1.1, (textR B 1 16 (num B 1 0 7 a2).2).1.2⟩, (textR B 1 16 (num B 1 0 7 a2).2).2)) := by unfold Hid; rw [HE.out, if_neg k1, if_neg k2, if_pos k3]
        have b1 := num_at B 1 0 7 a2
        have b3 := @num_ok1 B 1 0 7 a2
        have HC2 := fun W (hW : PR W R P o c B a2) => hid (number_ok hW 1 0 7 ⟨by omega, by omega⟩ (fun hb => by have := HRM.out hb; omega) (by omega) (by omega))
        have HC3 := fun W (hW : PR W R P o c B (num B 1 0 7 a2).2) => hid (text_ok hW 1 16 (fun hb => by have := HRM.out (b3 hb); omega) (by omega) (by omega))
        clear b1 b3 HE HRM
        generalize num B 1 0 7 a2 = m at *
        generalize textR B 1 16 m.2 = g at *
        obtain ⟨m, m2⟩ := m
        obtain ⟨g, g2⟩ := g
        dsimp only at HE2 HC2 HC3
        subst k3
        clear k1 k2
        go_wp2_with fail
        clear y0 y1 y2 y3 y4
        refine ((HC2 _ HR.out).out).mono ?_
        rintro _ w4 ⟨rfl, rw4, aw4⟩
        have HSw4 := hid aw4
        replace HR := hid rw4
        replace HA := hid (HA.out.trans aw4)
        clear rw4 aw4
        replace HBD := hid (keepB HSw4.out HBD.out HND_R.out)
        replace HBY := hid (keepB HSw4.out HBY.out HNY_R.out)
        dsimp only
        obtain ⟨w5, hw5⟩ : ∃ W, W = w4.setCell ⟨Y, 2, none⟩ (.int .i64 (m : Nat)) := ⟨_, rfl⟩
        have HSw5 : Hid (Apart [Y] w4 w5) := by unfold Hid; rw [hw5]; exact (Apart.refl _ _).setCell (.inl (by simp)) _
        obtain ⟨y0, y1, y2, y3, y4⟩ := cells_hd HBY.out
        have fy := frozen_of_row _ _ 2 _ _ HBY.out
        replace HBY : Hid (w5.heap[Y]? = some (.cells (hdL 3 0 m 0 (.slice none 0 0)).toArray 99 (0, 0))) := by unfold Hid; rw [hw5, ← hdL_2 3 0 0 0 (.slice none 0 0)]; exact heap_setCell_same w4 Y 2 _ 99 _ HBY.out
        replace HR := hid (HR.out.kept HSw5.out (by simp; exact HNY_R.out.symm) (by simp; exact HNY_P.out))
        replace HA := hid (HA.out.trans' HSw5.out (by intro y hy; simp at hy; rw [hy]; exact .inr HLY.out))
        replace HBD := hid (keepB HSw5.out HBD.out HNY_D.out.symm)
        go_upto_region 11 with fail
        rw [← hw5]
        clear hw5 y0 y1 y2 y3 y4 fy
        go_wp2_with fail
        refine ((HC3 _ HR.out).out).mono ?_
        rintro _ w6 ⟨rfl, rw6, aw6⟩
        have HSw6 := hid aw6
        replace HR := hid rw6
        replace HA := hid (HA.out.trans aw6)
        clear rw6 aw6
        replace HBD := hid (keepB HSw6.out HBD.out HND_R.out)
        replace HBY := hid (keepB HSw6.out HBY.out HNY_R.out)
        dsimp only
        obtain ⟨v, Hv⟩ : ∃ v, Hid (v = tsl P o g) := ⟨_, rfl⟩
        have HV1 : Hid (v.oneCell' = true) := by unfold Hid; rw [Hv.out]; rfl
        have HVS : Hid (∃ q, v = .slice q g.2 g.2) := ⟨_, Hv.out⟩
        rw [← Hv.out]
        obtain ⟨q, hvq⟩ := HVS.out
        subst hvq
        obtain ⟨w7, hw7⟩ : ∃ W, W = w6.setCell ⟨Y, 4, none⟩ (.slice q g.2 g.2) := ⟨_, rfl⟩
        have HSw7 : Hid (Apart [Y] w6 w7) := by unfold Hid; rw [hw7]; exact (Apart.refl _ _).setCell (.inl (by simp)) _
        obtain ⟨y0, y1, y2, y3, y4⟩ := cells_hd HBY.out
        have fy := frozen_of_row _ _ 4 _ _ HBY.out
        replace HBY : Hid (w7.heap[Y]? = some (.cells (hdL 3 0 m 0 (.slice q g.2 g.2)).toArray 99 (0, 0))) := by unfold Hid; rw [hw7, ← hdL_4 3 0 m 0 (.slice none 0 0)]; exact heap_setCell_same w6 Y 4 _ 99 _ HBY.out
        replace HR := hid (HR.out.kept HSw7.out (by simp; exact HNY_R.out.symm) (by simp; exact HNY_P.out))
        replace HA := hid (HA.out.trans' HSw7.out (by intro y hy; simp at hy; rw [hy]; exact .inr HLY.out))
        replace HBD := hid (keepB HSw7.out HBD.out HNY_D.out.symm)
        go_upto_region 12 with fail
        rw [← hw7]
        clear hw7 y0 y1 y2 y3 y4 fy
        obtain ⟨w8, hw8⟩ : ∃ W, W = w7.setCell ⟨Y, 3, none⟩ (.int .i64 1) := ⟨_, rfl⟩
        have HSw8 : Hid (Apart [Y] w7 w8) := by unfold Hid; rw [hw8]; exact (Apart.refl _ _).setCell (.inl (by simp)) _
        obtain ⟨y0, y1, y2, y3, y4⟩ := cells_hd HBY.out
        have fy := frozen_of_row _ _ 3 _ _ HBY.out
        replace HBY : Hid (w8.heap[Y]? = some (.cells (hdL 3 0 m 1 (.slice q g.2 g.2)).toArray 99 (0, 0))) := by unfold Hid; rw [hw8, ← hdL_3 3 0 m 0 (.slice q g.2 g.2)]; exact heap_setCell_same w7 Y 3 _ 99 _ HBY.out
        replace HR := hid (HR.out.kept HSw8.out (by simp; exact HNY_R.out.symm) (by simp; exact HNY_P.out))
        replace HA := hid (HA.out.trans' HSw8.out (by intro y hy; simp at hy; rw [hy]; exact .inr HLY.out))
        replace HBD := hid (keepB HSw8.out HBD.out HNY_D.out.symm)
        go_upto_region 13 with fail
        rw [← hw8]
        clear hw8 y0 y1 y2 y3 y4 fy
        obtain ⟨z, hz⟩ : ∃ z, z = w8.setCells D 0 (hdL 3 0 m 1 (.slice q g.2 g.2)).toArray.toList := ⟨_, rfl⟩
        have b : Apart [D] w8 z := by rw [hz]; exact apart_setCells _ _ _ (Apart.refl _ _) (.inl (by simp))
        replace HR := hid (HR.out.kept b (by simp; exact HND_R.out.symm) (by simp; exact HND_P.out))
        replace HA := hid (HA.out.trans' b (by intro y hy; simp at hy; rw [hy]; exact .inr HLD.out))
        have HBz : Hid (z.heap[D]? = some (.cells (hdL 3 0 m 1 (.slice q g.2 g.2)).toArray 99 (0, 0))) := by
          unfold Hid; rw [hz]
          have := heap_setCells_same (hdL 3 0 m 1 (.slice q g.2 g.2)).toArray.toList 0 w8 _ HBD.out
          rw [spl_all (by rfl)] at this
          exact this
        refine wp_region_list ?_
        dsimp only [Array.toList]
        refine wpList_load_mid rfl 99 (.tmp 3) rfl Y 0 rfl (hdL 3 0 m 1 (.slice q g.2 g.2)) _ (range_of HBY.out) Try.underlying99 rfl size99 ?_
        refine wpList_store_mid rfl 99 (.tmp 2) (.tmp 34) rfl D 0 (hdL 3 0 m 1 (.slice q g.2 g.2)).toArray rfl rfl (there_of HBD.out _ _ (by show 0 + 5 ≤ 5; omega)) size99 (hdL_one _ _ _ _ _ HV1.out) ?_
        rw [← hz]
        clear hz b
        go_wp2_with fail
        refine bodyPost_ret (results_cell_row rfl _ _ D 99 _ _ _ rfl HBz.out Try.underlying99 rfl size99) rfl ?_
        rw [HE2.out]
        exact ⟨by unfold hdV keyV; dsimp only; rw [if_pos (.inr rfl), ← Hv.out], HR.out, HA.out⟩
      · have k3i : ¬ ((k : Nat) : Int) = 3 := by omega
        have HE2 : Hid (headR B s = (⟨k, 0, 0, 0, 0, 0⟩, a2)) := by unfold Hid; rw [HE.out, if_neg k1, if_neg k2, if_neg k3]
        have HV1 : Hid ((Value.slice none 0 0).oneCell' = true) := rfl
        clear HE HRM
        go_upto_region 13 with fail
        clear y0 y1 y2 y3 y4
        obtain ⟨z, hz⟩ : ∃ z, z = w3.setCells D 0 (hdL k 0 0 0 (.slice none 0 0)).toArray.toList := ⟨_, rfl⟩
        have b : Apart [D] w3 z := by rw [hz]; exact apart_setCells _ _ _ (Apart.refl _ _) (.inl (by simp))
        replace HR := hid (HR.out.kept b (by simp; exact HND_R.out.symm) (by simp; exact HND_P.out))
        replace HA := hid (HA.out.trans' b (by intro y hy; simp at hy; rw [hy]; exact .inr HLD.out))
        have HBz : Hid (z.heap[D]? = some (.cells (hdL k 0 0 0 (.slice none 0 0)).toArray 99 (0, 0))) := by
          unfold Hid; rw [hz]
          have := heap_setCells_same (hdL k 0 0 0 (.slice none 0 0)).toArray.toList 0 w3 _ HBD.out
          rw [spl_all (by rfl)] at this
          exact this
        refine wp_region_list ?_
        dsimp only [Array.toList]
        refine wpList_load_mid rfl 99 (.tmp 3) rfl Y 0 rfl (hdL k 0 0 0 (.slice none 0 0)) _ (range_of HBY.out) Try.underlying99 rfl size99 ?_
        refine wpList_store_mid rfl 99 (.tmp 2) (.tmp 34) rfl D 0 (hdL k 0 0 0 (.slice none 0 0)).toArray rfl rfl (there_of HBD.out _ _ (by show 0 + 5 ≤ 5; omega)) size99 (hdL_one _ _ _ _ _ HV1.out) ?_
        rw [← hz]
        clear hz b
        go_wp2_with fail
        refine bodyPost_ret (results_cell_row rfl _ _ D 99 _ _ _ rfl HBz.out Try.underlying99 rfl size99) rfl ?_
        rw [HE2.out]
        exact ⟨by unfold hdV keyV; dsimp only; rw [if_neg (by omega)], HR.out, HA.out⟩
end Go.Proofs.Ytllhmidpphlbhaa.ds
