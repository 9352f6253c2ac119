import Derived.Deep.RegionHeld
import Derived.OrdersHeld
import Derived.WalkKit
import Derived.ProofKit
import Derived.Lib.TrailingZeros
import Derived.Test.YtllhmidpphlbhaaChecked
import Derived.OpenShut
import Derived.Deep.QuietTactic
import Derived.BigQuiet
import Derived.BigRegion
import Derived.Laws.CopyOwn
import Derived.Laws.Bits64b
import Derived.Laws.MathBits
import Derived.Laws.ShiftsVarLaws
import Derived.WalkSmall
import Derived.Laws.ResultCell
import Derived.Lib.BitFns
import Derived.Laws.StructEq
import Derived.ArgAppend
import Derived.Deep.RegionLaw
import Derived.Deep.DeepAppendRoom
import Derived.Sort.WalkA
import Derived.Laws.Strings
import Derived.Deep.CutBlock
import Derived.Great.BuildSlice
import Derived.Laws.AppendOwnNone
import Derived.Lib.Overlaps
import Derived.Lib.AppendZerosOnto
import Derived.Laws.NewBlocks
import Derived.Laws.Externs
import Derived.Laws.IdiomCopy
import Derived.Laws.BytesString
import Derived.Deep.CutRange
import Derived.RangeFuncNested
import Derived.RangeFuncBound
import Derived.RangeFuncCalls
import Derived.RangeFuncLeaves
import Derived.Shelf.Abstract
import Derived.Shelf.RegionOpen
import Derived.OwnWalkIn
import Derived.TacticsInMore
import Derived.LoopNIn
import Derived.LoopIn
import GoSem.Claim
import GoSem.ClaimJoined
import GoSem.ClaimMapViews
import Derived.JoinedTies
import Derived.KernelRfl
import Derived.Deep.OwnRows
import Derived.Lib.LaidTab
import Derived.JoinedCond
import Derived.ShutString
import Derived.ChangeOld
import Derived.Below
import Derived.Carry
import Derived.ChangeSlices
import Derived.Deep.Slices
import Derived.Deep.DeepHandedRow
import Derived.RowKit
import Derived.ChangeShapes
import Derived.SizedLaws
import Derived.ChangeMaps5
import Derived.Lib.Walk
import Derived.Lib.SliceRun
import Derived.Lib.AppendStr
import Derived.Lib.ConvBytes
import Derived.Deep.RegionHeld3
import Derived.Deep.MidRow
import Derived.Laws.MakeOwn
import Derived.Lib.SlBytesConst
import Derived.Test.YtllhmidpphlbhaaRows
import Derived.Test.YtllhmidpphlbhaaF24
namespace Go.Proofs.Ytllhmidpphlbhaa.ds
open Go.ChangeShapes Go.WideShapes Go.ChangeAt Go.RowKit Go.Sort
set_option linter.unusedVariables false
set_option linter.unusedSimpArgs false

/-- the cells of a page's write -/
def wrL (n c : Nat) (d : Bool) (v : Value) (xs : List S) (m : Nat) : List Value := .int .i64 (n : Nat) :: .int .i64 (c : Nat) :: .bool d :: v :: setL xs m
theorem wrL_len {n c : Nat} {d : Bool} {v : Value} {xs : List S} {m : Nat} (h : xs.length ≤ 8) : (wrL n c d v xs m).length = 29 := by unfold wrL; simp only [List.length_cons, setL_len h]
theorem wrL_0 (n c : Nat) (d : Bool) (v : Value) (xs : List S) (m n' : Nat) : (wrL n c d v xs m).toArray.setIfInBounds 0 (.int .i64 (n' : Nat)) = (wrL n' c d v xs m).toArray := by unfold wrL; simp
theorem wrL_1 (n c : Nat) (d : Bool) (v : Value) (xs : List S) (m c' : Nat) : (wrL n c d v xs m).toArray.setIfInBounds 1 (.int .i64 (c' : Nat)) = (wrL n c' d v xs m).toArray := by unfold wrL; simp
theorem wrL_2 (n c : Nat) (d : Bool) (v : Value) (xs : List S) (m : Nat) (d' : Bool) : (wrL n c d v xs m).toArray.setIfInBounds 2 (.bool d') = (wrL n c d' v xs m).toArray := by unfold wrL; simp
theorem wrL_3 (n c : Nat) (d : Bool) (v : Value) (xs : List S) (m : Nat) (v' : Value) : (wrL n c d v xs m).toArray.setIfInBounds 3 v' = (wrL n c d v' xs m).toArray := by unfold wrL; simp
theorem wrL_4 {n c : Nat} {d : Bool} {v : Value} {xs ys : List S} {m k : Nat} (h : xs.length ≤ 8) (hy : ys.length ≤ 8) : spl (wrL n c d v xs m).toArray 4 (setL ys k) = (wrL n c d v ys k).toArray := by
  rw [spl_list _ _ _ (by rw [wrL_len h, setL_len hy]; omega)]
  congr 1
  rw [List.drop_eq_nil_of_le (by rw [wrL_len h, setL_len hy]; omega), List.append_nil]
  rfl
theorem size107 : (Try.prog.info? 107).map (·.size) = some 29 := by kernel_rfl
theorem isw {n c : Nat} {d : Bool} {v : Value} {xs : List S} {m : Nat} (h : xs.length ≤ 8) : (Try.prog.info? 107).map (·.size) = some (wrL n c d v xs m).toArray.size := by rw [size107, List.size_toArray, wrL_len h]
theorem wrL_one (n c : Nat) (d : Bool) (v : Value) (hv : v.oneCell' = true) (xs : List S) (m : Nat) : (wrL n c d v xs m).toArray.all (·.oneCell') = true := by
  refine all_oneCell_toArray (fun u hu => ?_)
  unfold wrL at hu
  simp only [List.mem_cons] at hu
  rcases hu with h | h | h | h | h
  · rw [h]; rfl
  · rw [h]; rfl
  · rw [h]; rfl
  · rw [h]; exact hv
  · have := setL_one xs m
    exact (Array.all_eq_true_iff_forall_mem.1 this) u (by simpa using h)
/-- a write of a page as a value -/
def pwV (P o : Nat) (p : Pw) : Value := .agg (wrL p.n p.c p.d (tsl P o (p.vb, p.vn)) p.xs p.xs.length).toArray
theorem leastI_C (an ac n : Nat) : leastI an ac n = ((leastC an ac n : Nat) : Int) := by
  unfold leastI leastC
  by_cases h : n = an
  · rw [if_pos h, if_pos (by omega)]; rfl
  · rw [if_neg h, if_neg (by omega)]; rfl
/-- the row of Y: a write that is being read -/
theorem cells_wr {w : World} {Y n c : Nat} {d : Bool} {v : Value} {xs : List S} {m : Nat} {t : TypeId} (h : w.heap[Y]? = some (.cells (wrL n c d v xs m).toArray t (0, 0))) : w.cell? ⟨Y, 0, none⟩ = some (.int .i64 (n : Nat)) ∧ w.cell? ⟨Y, 1, none⟩ = some (.int .i64 (c : Nat)) ∧ w.cell? ⟨Y, 2, none⟩ = some (.bool d) ∧ w.cell? ⟨Y, 3, none⟩ = some v := by
  refine ⟨?_, ?_, ?_, ?_⟩ <;> (rw [cell_of_row _ _ _ _ _ _ h]; rfl)
theorem textR_ok1 {B : List Nat} {lo hi : Nat} {s : Ps} (h : (textR B lo hi s).2.bad = false) : s.bad = false := num_ok1 (B := B) (k := 1) (lo := lo) (hi := hi) h
set_option maxHeartbeats 8000000 in
set_option maxRecDepth 100000 in
theorem write_ok {w : World} {R P o c : Nat} {B : List Nat} {s : Ps} (h : PR w R P o c B s) (an ac : Nat) (hr : s.bad = false → s.at_ + 176 ≤ 2048) (hn : an ≤ 7) (hc : ac ≤ 1048576) :
    Calls Try.prog 74 #[.pointer (some ⟨R, 0, none⟩), .agg #[.int .i64 (an : Nat), .int .i64 (ac : Nat)]] w fun e w' => PO w w' R P o c B e (pwV P o (writeR B an ac s).1) (writeR B an ac s).2 := by
  have HR := hid h
  have HA : Hid (Apart [R] w w) := Apart.refl _ _
  obtain ⟨a, Ha⟩ : ∃ a, Hid (a = num B 1 an 7 s) := ⟨_, rfl⟩
  obtain ⟨b, Hb⟩ : ∃ b, Hid (b = num B 4 (leastC an ac a.1) 1048576 a.2) := ⟨_, rfl⟩
  obtain ⟨d, Hd⟩ : ∃ d, Hid (d = num B 1 0 1 b.2) := ⟨_, rfl⟩
  obtain ⟨db, Hdb⟩ : ∃ db, Hid (db = (d.1 == 1)) := ⟨_, rfl⟩
  obtain ⟨t, Ht⟩ : ∃ t, Hid (t = textR B 0 (mostV db) d.2) := ⟨_, rfl⟩
  obtain ⟨x, Hx⟩ : ∃ x, Hid (x = setR B a.1 b.1 t.2) := ⟨_, rfl⟩
  have HE : Hid (writeR B an ac s = (⟨a.1, b.1, db, t.1.1, t.1.2, x.1⟩, x.2)) := by
    unfold Hid writeR
    dsimp only
    rw [← Ha.out, ← Hb.out, ← Hd.out, ← Hdb.out, ← Ht.out, ← Hx.out]
  have a1 := num_at B 1 an 7 s
  have a2 := num_le B 1 an 7 s
  have a3 := @num_ok1 B 1 an 7 s
  rw [← Ha.out] at a1 a2 a3
  have b1 := num_at B 4 (leastC an ac a.1) 1048576 a.2
  have b2 := num_le B 4 (leastC an ac a.1) 1048576 a.2
  have b3 := @num_ok1 B 4 (leastC an ac a.1) 1048576 a.2
  rw [← Hb.out] at b1 b2 b3
  have d1 := num_at B 1 0 1 b.2
  have d2 := num_le B 1 0 1 b.2
  have d3 := @num_ok1 B 1 0 1 b.2
  rw [← Hd.out] at d1 d2 d3
  have v0 := mostV_le db
  have v1 := textR_at B 0 (mostV db) d.2
  have v3 := @textR_ok1 B 0 (mostV db) d.2
  rw [← Ht.out] at v1 v3
  have x1 := setR_at B a.1 b.1 t.2
  rw [← Hx.out] at x1
  have hl : leastC an ac a.1 ≤ 1048577 := by unfold leastC; split <;> omega
  have HC1 := fun W (hW : PR W R P o c B s) => hid (number_ok hW 1 an 7 ⟨by omega, by omega⟩ (fun hb => by have := hr hb; omega) (by omega) (by omega))
  have HC2 := fun W (hW : PR W R P o c B a.2) => hid (number_ok hW 4 (leastC an ac a.1) 1048576 ⟨by omega, by omega⟩ (fun hb => by have := hr (a3 hb); omega) (by omega) (by omega))
  have HC3 := fun W (hW : PR W R P o c B b.2) => hid (number_ok hW 1 0 1 ⟨by omega, by omega⟩ (fun hb => by have := hr (a3 (b3 hb)); omega) (by omega) (by omega))
  have HC4 := fun W (hW : PR W R P o c B d.2) => hid (text_ok hW 0 (mostV db) (fun hb => by have := hr (a3 (b3 (d3 hb))); omega) (by omega) (by omega))
  have HC5 := fun W (hW : PR W R P o c B t.2) => hid (set_ok hW a.1 b.1 (fun hb => by have := hr (a3 (b3 (d3 (v3 hb)))); omega) (by omega) (by omega))
  have HCL := fun W => hid (leastCount_ok W an ac (a.1 : Nat) ⟨by omega, by omega⟩)
  rw [← Ha.out] at HC1
  rw [← Hb.out] at HC2
  rw [← Hd.out] at HC3
  rw [← Ht.out] at HC4
  rw [← Hx.out] at HC5
  have HX8 : Hid (x.1.length ≤ 8) := x1.2.2
  have HDB : Hid (((d.1 : Nat) : Int) = 1 ↔ db = true) := by unfold Hid; rw [Hdb.out]; simp; omega
  clear h hr hn hc a1 a2 a3 b1 b2 b3 d1 d2 d3 v0 v1 v3 x1 hl Ha Hb Hd Hdb Ht Hx
  obtain ⟨a1, a2⟩ := a
  obtain ⟨b1, b2⟩ := b
  obtain ⟨d1, d2⟩ := d
  obtain ⟨t1, t2⟩ := t
  obtain ⟨xs, x2⟩ := x
  dsimp only at HC1 HC2 HC3 HC4 HC5 HCL HE HX8 HDB
  rw [leastI_C] at HCL
  obtain ⟨X, HXX⟩ : ∃ X, Hid (X = w.heap.size) := ⟨_, rfl⟩
  obtain ⟨w1, hw1⟩ : ∃ W, W = w.alloc (.cells #[.int .i64 (an : Nat), .int .i64 (ac : Nat)] 47) := ⟨_, rfl⟩
  have HSw1 : Hid (Apart [] w w1) := by unfold Hid; rw [hw1]; exact (Apart.refl [] w).alloc _
  have HBX : Hid (w1.heap[X]? = some (.cells #[.int .i64 (an : Nat), .int .i64 (ac : Nat)] 47 (0, 0))) := by unfold Hid; rw [HXX.out, hw1]; exact heap_alloc_new w _
  have HNX_R : Hid (X ≠ R) := by unfold Hid; have := lt_of_heap HR.out.blk; rw [HXX.out]; omega
  have HNX_P : Hid (P ≠ X) := by unfold Hid; have := HR.out.lt; rw [HXX.out]; omega
  have HLX : Hid (w.heap.size ≤ X) := by unfold Hid; rw [HXX.out]; exact HA.out.size
  replace HR := hid (HR.out.kept0 HSw1.out)
  replace HA := hid (HA.out.trans (HSw1.out.mono (by simp)))
  obtain ⟨D, HXD⟩ : ∃ X, Hid (X = w1.heap.size) := ⟨_, rfl⟩
  obtain ⟨w2, hw2⟩ : ∃ W, W = w1.alloc (.cells #[.int .i64 0, .int .i64 0, .bool false, .slice none 0 0, .int .i64 0, .int .i64 0, .int .u64 0, .int .i64 0, .int .i64 0, .int .u64 0, .int .i64 0, .int .i64 0, .int .u64 0, .int .i64 0, .int .i64 0, .int .u64 0, .int .i64 0, .int .i64 0, .int .u64 0, .int .i64 0, .int .i64 0, .int .u64 0, .int .i64 0, .int .i64 0, .int .u64 0, .int .i64 0, .int .i64 0, .int .u64 0, .int .i64 0] 107) := ⟨_, rfl⟩
  have HSw2 : Hid (Apart [] w1 w2) := by unfold Hid; rw [hw2]; exact (Apart.refl [] w1).alloc _
  have HBD : Hid (w2.heap[D]? = some (.cells #[.int .i64 0, .int .i64 0, .bool false, .slice none 0 0, .int .i64 0, .int .i64 0, .int .u64 0, .int .i64 0, .int .i64 0, .int .u64 0, .int .i64 0, .int .i64 0, .int .u64 0, .int .i64 0, .int .i64 0, .int .u64 0, .int .i64 0, .int .i64 0, .int .u64 0, .int .i64 0, .int .i64 0, .int .u64 0, .int .i64 0, .int .i64 0, .int .u64 0, .int .i64 0, .int .i64 0, .int .u64 0, .int .i64 0] 107 (0, 0))) := by unfold Hid; rw [HXD.out, hw2]; exact heap_alloc_new w1 _
  have HND_R : Hid (D ≠ R) := by unfold Hid; have := lt_of_heap HR.out.blk; rw [HXD.out]; omega
  have HND_P : Hid (P ≠ D) := by unfold Hid; have := HR.out.lt; rw [HXD.out]; omega
  have HND_X : Hid (D ≠ X) := by unfold Hid; have := lt_of_heap HBX.out; rw [HXD.out]; omega
  have HLD : Hid (w.heap.size ≤ D) := by unfold Hid; rw [HXD.out]; exact HA.out.size
  replace HR := hid (HR.out.kept0 HSw2.out)
  replace HA := hid (HA.out.trans (HSw2.out.mono (by simp)))
  replace HBX := hid (keep0 HSw2.out HBX.out)
  have heD : X + 1 = D := by rw [HXD.out, hw1, HXX.out]; exact (Array.size_push _).symm
  replace HBD : Hid (w2.heap[D]? = some (.cells (wrL 0 0 false (.slice none 0 0) [] 0).toArray 107 (0, 0))) := HBD
  obtain ⟨Y, HXY⟩ : ∃ X, Hid (X = w2.heap.size) := ⟨_, rfl⟩
  obtain ⟨w3, hw3⟩ : ∃ W, W = w2.alloc (.cells #[.int .i64 0, .int .i64 0, .bool false, .slice none 0 0, .int .i64 0, .int .i64 0, .int .u64 0, .int .i64 0, .int .i64 0, .int .u64 0, .int .i64 0, .int .i64 0, .int .u64 0, .int .i64 0, .int .i64 0, .int .u64 0, .int .i64 0, .int .i64 0, .int .u64 0, .int .i64 0, .int .i64 0, .int .u64 0, .int .i64 0, .int .i64 0, .int .u64 0, .int .i64 0, .int .i64 0, .int .u64 0, .int .i64 0] 107) := ⟨_, rfl⟩
  have HSw3 : Hid (Apart [] w2 w3) := by unfold Hid; rw [hw3]; exact (Apart.refl [] w2).alloc _
  have HBY : Hid (w3.heap[Y]? = some (.cells #[.int .i64 0, .int .i64 0, .bool false, .slice none 0 0, .int .i64 0, .int .i64 0, .int .u64 0, .int .i64 0, .int .i64 0, .int .u64 0, .int .i64 0, .int .i64 0, .int .u64 0, .int .i64 0, .int .i64 0, .int .u64 0, .int .i64 0, .int .i64 0, .int .u64 0, .int .i64 0, .int .i64 0, .int .u64 0, .int .i64 0, .int .i64 0, .int .u64 0, .int .i64 0, .int .i64 0, .int .u64 0, .int .i64 0] 107 (0, 0))) := by unfold Hid; rw [HXY.out, hw3]; exact heap_alloc_new w2 _
  have HNY_R : Hid (Y ≠ R) := by unfold Hid; have := lt_of_heap HR.out.blk; rw [HXY.out]; omega
  have HNY_P : Hid (P ≠ Y) := by unfold Hid; have := HR.out.lt; rw [HXY.out]; omega
  have HNY_X : Hid (Y ≠ X) := by unfold Hid; have := lt_of_heap HBX.out; rw [HXY.out]; omega
  have HNY_D : Hid (Y ≠ D) := by unfold Hid; have := lt_of_heap HBD.out; rw [HXY.out]; omega
  have HLY : Hid (w.heap.size ≤ Y) := by unfold Hid; rw [HXY.out]; exact HA.out.size
  replace HR := hid (HR.out.kept0 HSw3.out)
  replace HA := hid (HA.out.trans (HSw3.out.mono (by simp)))
  replace HBX := hid (keep0 HSw3.out HBX.out)
  replace HBD := hid (keep0 HSw3.out HBD.out)
  have heY : D + 1 = Y := by rw [HXY.out, hw2, HXD.out]; exact (Array.size_push _).symm
  replace HBY : Hid (w3.heap[Y]? = some (.cells (wrL 0 0 false (.slice none 0 0) [] 0).toArray 107 (0, 0))) := HBY
  go_enter Try.func74, Try.ntmps74
  go_upto_region 2 with fail
  rw [← hw1, ← HXX.out, heD, ← hw2, ← hw3, heY]
  clear hw1 HXX hw2 HXD heD hw3 HXY heY
  have zX0 : w3.cell? ⟨X, 0, none⟩ = some (.int .i64 (an : Nat)) := by rw [cell_of_row _ _ _ _ _ _ HBX.out]; rfl
  go_wp2_with fail
  clear zX0
  refine ((HC1 _ HR.out).out).mono ?_
  rintro _ w4 ⟨rfl, rw4, aw4⟩
  have HSw4 := hid aw4
  replace HR := hid rw4
  replace HA := hid (HA.out.trans aw4)
  clear rw4 aw4
  replace HBX := hid (keepB HSw4.out HBX.out HNX_R.out)
  replace HBD := hid (keepB HSw4.out HBD.out HND_R.out)
  replace HBY := hid (keepB HSw4.out HBY.out HNY_R.out)
  dsimp only
  obtain ⟨w5, hw5⟩ : ∃ W, W = w4.setCell ⟨Y, 0, none⟩ (.int .i64 (a1 : Nat)) := ⟨_, rfl⟩
  have HSw5 : Hid (Apart [Y] w4 w5) := by unfold Hid; rw [hw5]; exact (Apart.refl _ _).setCell (.inl (by simp)) _
  obtain ⟨y0, y1, y2, y3⟩ := cells_wr HBY.out
  have fy := frozen_of_row _ _ 0 _ _ HBY.out
  replace HBY : Hid (w5.heap[Y]? = some (.cells (wrL a1 0 false (.slice none 0 0) [] 0).toArray 107 (0, 0))) := by unfold Hid; rw [hw5, ← wrL_0 0 0 false (.slice none 0 0) [] 0]; exact heap_setCell_same w4 Y 0 _ 107 _ HBY.out
  replace HR := hid (HR.out.kept HSw5.out (by simp; exact HNY_R.out.symm) (by simp; exact HNY_P.out))
  replace HA := hid (HA.out.trans' HSw5.out (by intro y hy; simp at hy; rw [hy]; exact .inr HLY.out))
  replace HBX := hid (keepB HSw5.out HBX.out HNY_X.out.symm)
  replace HBD := hid (keepB HSw5.out HBD.out HNY_D.out.symm)
  go_upto_region 3 with fail
  rw [← hw5]
  clear hw5 y0 y1 y2 y3 fy
  have zX0 : w5.cell? ⟨X, 0, none⟩ = some (.int .i64 (an : Nat)) := by rw [cell_of_row _ _ _ _ _ _ HBX.out]; rfl
  have zX1 : w5.cell? ⟨X, 1, none⟩ = some (.int .i64 (ac : Nat)) := by rw [cell_of_row _ _ _ _ _ _ HBX.out]; rfl
  obtain ⟨y0, y1, y2, y3⟩ := cells_wr HBY.out
  go_wp2_with fail
  clear zX0 zX1 y0 y1 y2 y3
  refine ((HCL _).out).mono ?_
  rintro _ w6 ⟨rfl, aw6⟩
  have HSw6 := hid aw6
  replace HR := hid (HR.out.kept0 aw6)
  replace HA := hid (HA.out.trans (aw6.mono (by simp)))
  clear aw6
  replace HBX := hid (keep0 HSw6.out HBX.out)
  replace HBD := hid (keep0 HSw6.out HBD.out)
  replace HBY := hid (keep0 HSw6.out HBY.out)
  dsimp only
  go_wp2_with fail
  refine ((HC2 _ HR.out).out).mono ?_
  rintro _ w7 ⟨rfl, rw7, aw7⟩
  have HSw7 := hid aw7
  replace HR := hid rw7
  replace HA := hid (HA.out.trans aw7)
  clear rw7 aw7
  replace HBX := hid (keepB HSw7.out HBX.out HNX_R.out)
  replace HBD := hid (keepB HSw7.out HBD.out HND_R.out)
  replace HBY := hid (keepB HSw7.out HBY.out HNY_R.out)
  dsimp only
  obtain ⟨w8, hw8⟩ : ∃ W, W = w7.setCell ⟨Y, 1, none⟩ (.int .i64 (b1 : Nat)) := ⟨_, rfl⟩
  have HSw8 : Hid (Apart [Y] w7 w8) := by unfold Hid; rw [hw8]; exact (Apart.refl _ _).setCell (.inl (by simp)) _
  obtain ⟨y0, y1, y2, y3⟩ := cells_wr HBY.out
  have fy := frozen_of_row _ _ 1 _ _ HBY.out
  replace HBY : Hid (w8.heap[Y]? = some (.cells (wrL a1 b1 false (.slice none 0 0) [] 0).toArray 107 (0, 0))) := by unfold Hid; rw [hw8, ← wrL_1 a1 0 false (.slice none 0 0) [] 0]; exact heap_setCell_same w7 Y 1 _ 107 _ HBY.out
  replace HR := hid (HR.out.kept HSw8.out (by simp; exact HNY_R.out.symm) (by simp; exact HNY_P.out))
  replace HA := hid (HA.out.trans' HSw8.out (by intro y hy; simp at hy; rw [hy]; exact .inr HLY.out))
  replace HBX := hid (keepB HSw8.out HBX.out HNY_X.out.symm)
  replace HBD := hid (keepB HSw8.out HBD.out HNY_D.out.symm)
  go_upto_region 4 with fail
  rw [← hw8]
  clear hw8 y0 y1 y2 y3 fy
  go_wp2_with fail
  refine ((HC3 _ HR.out).out).mono ?_
  rintro _ w9 ⟨rfl, rw9, aw9⟩
  have HSw9 := hid aw9
  replace HR := hid rw9
  replace HA := hid (HA.out.trans aw9)
  clear rw9 aw9
  replace HBX := hid (keepB HSw9.out HBX.out HNX_R.out)
  replace HBD := hid (keepB HSw9.out HBD.out HND_R.out)
  replace HBY := hid (keepB HSw9.out HBY.out HNY_R.out)
  dsimp only
  have hdb : (((d1 : Nat) : Int) == 1) = db := by
    have h := HDB.out
    cases db with
    | true => simp [h.2 rfl]
    | false => simp; exact fun e => by have := h.1 (by omega); cases this
  obtain ⟨w10, hw10⟩ : ∃ W, W = w9.setCell ⟨Y, 2, none⟩ (.bool db) := ⟨_, rfl⟩
  have HSw10 : Hid (Apart [Y] w9 w10) := by unfold Hid; rw [hw10]; exact (Apart.refl _ _).setCell (.inl (by simp)) _
  obtain ⟨y0, y1, y2, y3⟩ := cells_wr HBY.out
  have fy := frozen_of_row _ _ 2 _ _ HBY.out
  replace HBY : Hid (w10.heap[Y]? = some (.cells (wrL a1 b1 db (.slice none 0 0) [] 0).toArray 107 (0, 0))) := by unfold Hid; rw [hw10, ← wrL_2 a1 b1 false (.slice none 0 0) [] 0]; exact heap_setCell_same w9 Y 2 _ 107 _ HBY.out
  replace HR := hid (HR.out.kept HSw10.out (by simp; exact HNY_R.out.symm) (by simp; exact HNY_P.out))
  replace HA := hid (HA.out.trans' HSw10.out (by intro y hy; simp at hy; rw [hy]; exact .inr HLY.out))
  replace HBX := hid (keepB HSw10.out HBX.out HNY_X.out.symm)
  replace HBD := hid (keepB HSw10.out HBD.out HNY_D.out.symm)
  go_upto_region 5 with fail
  rw [← hw10]
  clear hw10 y0 y1 y2 y3 fy
  clear hdb
  obtain ⟨y0, y1, y2, y3⟩ := cells_wr HBY.out
  go_wp2_with fail
  clear y0 y1 y2 y3
  refine (mostValue_ok _ db).mono ?_
  rintro _ wm ⟨rfl, hwm⟩
  rw [hwm]
  clear hwm wm
  dsimp only
  go_wp2_with fail
  refine ((HC4 _ HR.out).out).mono ?_
  rintro _ w11 ⟨rfl, rw11, aw11⟩
  have HSw11 := hid aw11
  replace HR := hid rw11
  replace HA := hid (HA.out.trans aw11)
  clear rw11 aw11
  replace HBX := hid (keepB HSw11.out HBX.out HNX_R.out)
  replace HBD := hid (keepB HSw11.out HBD.out HND_R.out)
  replace HBY := hid (keepB HSw11.out HBY.out HNY_R.out)
  dsimp only
  obtain ⟨v, Hv⟩ : ∃ v, Hid (v = tsl P o t1) := ⟨_, rfl⟩
  have HV1 : Hid (v.oneCell' = true) := by unfold Hid; rw [Hv.out]; rfl
  have HVS : Hid (∃ q, v = .slice q t1.2 t1.2) := ⟨_, Hv.out⟩
  rw [← Hv.out]
  obtain ⟨q, hvq⟩ := HVS.out
  subst hvq
  obtain ⟨w12, hw12⟩ : ∃ W, W = w11.setCell ⟨Y, 3, none⟩ (.slice q t1.2 t1.2) := ⟨_, rfl⟩
  have HSw12 : Hid (Apart [Y] w11 w12) := by unfold Hid; rw [hw12]; exact (Apart.refl _ _).setCell (.inl (by simp)) _
  obtain ⟨y0, y1, y2, y3⟩ := cells_wr HBY.out
  have fy := frozen_of_row _ _ 3 _ _ HBY.out
  replace HBY : Hid (w12.heap[Y]? = some (.cells (wrL a1 b1 db (.slice q t1.2 t1.2) [] 0).toArray 107 (0, 0))) := by unfold Hid; rw [hw12, ← wrL_3 a1 b1 db (.slice none 0 0) [] 0]; exact heap_setCell_same w11 Y 3 _ 107 _ HBY.out
  replace HR := hid (HR.out.kept HSw12.out (by simp; exact HNY_R.out.symm) (by simp; exact HNY_P.out))
  replace HA := hid (HA.out.trans' HSw12.out (by intro y hy; simp at hy; rw [hy]; exact .inr HLY.out))
  replace HBX := hid (keepB HSw12.out HBX.out HNY_X.out.symm)
  replace HBD := hid (keepB HSw12.out HBD.out HNY_D.out.symm)
  go_upto_region 6 with fail
  rw [← hw12]
  clear hw12 y0 y1 y2 y3 fy
  obtain ⟨y0, y1, y2, y3⟩ := cells_wr HBY.out
  go_wp2_with fail
  clear y0 y1 y2 y3
  refine ((HC5 _ HR.out).out).mono ?_
  rintro _ w13 ⟨rfl, rw13, aw13⟩
  have HSw13 := hid aw13
  replace HR := hid rw13
  replace HA := hid (HA.out.trans aw13)
  clear rw13 aw13
  replace HBX := hid (keepB HSw13.out HBX.out HNX_R.out)
  replace HBD := hid (keepB HSw13.out HBD.out HND_R.out)
  replace HBY := hid (keepB HSw13.out HBY.out HNY_R.out)
  dsimp only
  rename_i K1 hK1
  refine hK1 _ _ ?_
  clear hK1
  refine wpList_cutat 1 (fun a' w' => Hid (wpList _ _ _ (List.drop 1 _) a' w')) (fun T hT => ?_) (fun _ _ h => h)
  dsimp only [List.take, List.cons_append, List.nil_append, List.append]
  go_wp2_with fail
  refine hT _ _ ?_
  clear hT T
  unfold Hid
  dsimp only [List.drop]
  refine wpList_store_mid rfl 103 (.tmp 35) (.tmp 34) rfl Y 4 (setL xs xs.length).toArray rfl rfl (there_of HBY.out _ _ (by rw [List.size_toArray, List.size_toArray, setL_len HX8.out, wrL_len (by simp)]; omega)) (isz HX8.out) (setL_one _ _) ?_
  obtain ⟨w14, hw14⟩ : ∃ W, W = w13.setCells Y 4 (setL xs xs.length).toArray.toList := ⟨_, rfl⟩
  rw [← hw14]
  have HSw14 : Hid (Apart [Y] w13 w14) := by unfold Hid; rw [hw14]; exact apart_setCells _ _ _ (Apart.refl _ _) (.inl (by simp))
  replace HBY : Hid (w14.heap[Y]? = some (.cells (wrL a1 b1 db (.slice q t1.2 t1.2) xs xs.length).toArray 107 (0, 0))) := by
    unfold Hid; rw [hw14]
    have := heap_setCells_same (setL xs xs.length) 4 w13 _ HBY.out
    rw [wrL_4 (by simp) HX8.out] at this
    exact this
  replace HR := hid (HR.out.kept HSw14.out (by simp; exact HNY_R.out.symm) (by simp; exact HNY_P.out))
  replace HA := hid (HA.out.trans' HSw14.out (by intro y hy; simp at hy; rw [hy]; exact .inr HLY.out))
  replace HBX := hid (keepB HSw14.out HBX.out HNY_X.out.symm)
  replace HBD := hid (keepB HSw14.out HBD.out HNY_D.out.symm)
  clear hw14
  go_upto_region 7 with fail
  obtain ⟨z, hz⟩ : ∃ z, z = w14.setCells D 0 (wrL a1 b1 db (.slice q t1.2 t1.2) xs xs.length).toArray.toList := ⟨_, rfl⟩
  have b : Apart [D] w14 z := by rw [hz]; exact apart_setCells _ _ _ (Apart.refl _ _) (.inl (by simp))
  replace HR := hid (HR.out.kept b (by simp; exact HND_R.out.symm) (by simp; exact HND_P.out))
  replace HA := hid (HA.out.trans' b (by intro y hy; simp at hy; rw [hy]; exact .inr HLD.out))
  have HBz : Hid (z.heap[D]? = some (.cells (wrL a1 b1 db (.slice q t1.2 t1.2) xs xs.length).toArray 107 (0, 0))) := by
    unfold Hid; rw [hz]
    have := heap_setCells_same (wrL a1 b1 db (.slice q t1.2 t1.2) xs xs.length).toArray.toList 0 w14 _ HBD.out
    rw [spl_all (by rw [Array.length_toList, List.size_toArray, List.size_toArray, wrL_len HX8.out, wrL_len (by simp)])] at this
    exact this
  refine wp_region_list ?_
  dsimp only [Array.toList]
  refine wpList_load_mid rfl 107 (.tmp 5) rfl Y 0 rfl (wrL a1 b1 db (.slice q t1.2 t1.2) xs xs.length) _ (range_of HBY.out) Try.underlying107 rfl (by rw [size107, wrL_len HX8.out]) ?_
  refine wpList_store_mid rfl 107 (.tmp 4) (.tmp 36) rfl D 0 (wrL a1 b1 db (.slice q t1.2 t1.2) xs xs.length).toArray rfl rfl (there_of HBD.out _ _ (by rw [List.size_toArray, List.size_toArray, wrL_len HX8.out, wrL_len (by simp)]; omega)) (isw HX8.out) (wrL_one _ _ _ _ HV1.out _ _) ?_
  rw [← hz]
  clear hz b
  go_wp2_with fail
  refine bodyPost_ret (results_cell_row rfl _ _ D 107 _ _ _ rfl HBz.out Try.underlying107 rfl (isw HX8.out)) rfl ?_
  rw [HE.out]
  exact ⟨by unfold pwV; dsimp only; rw [← Hv.out], HR.out, HA.out⟩
end Go.Proofs.Ytllhmidpphlbhaa.ds
