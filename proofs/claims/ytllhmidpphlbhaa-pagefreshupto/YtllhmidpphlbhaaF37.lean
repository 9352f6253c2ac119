import Derived.Deep.RegionHeld
import Derived.OrdersHeld
import Derived.WalkKit
import Derived.ProofKit
import Derived.Lib.TrailingZeros
import Derived.Test.YtllhmidpphlbhaaChecked
import Derived.OpenShut
import Derived.Deep.QuietTactic
import Derived.BigQuiet
import Derived.BigRegion
import Derived.Laws.CopyOwn
import Derived.Laws.Bits64b
import Derived.Laws.MathBits
import Derived.Laws.ShiftsVarLaws
import Derived.WalkSmall
import Derived.Laws.ResultCell
import Derived.Lib.BitFns
import Derived.Laws.StructEq
import Derived.ArgAppend
import Derived.Deep.RegionLaw
import Derived.Deep.DeepAppendRoom
import Derived.Sort.WalkA
import Derived.Laws.Strings
import Derived.Deep.CutBlock
import Derived.Great.BuildSlice
import Derived.Laws.AppendOwnNone
import Derived.Lib.Overlaps
import Derived.Lib.AppendZerosOnto
import Derived.Laws.NewBlocks
import Derived.Laws.Externs
import Derived.Laws.IdiomCopy
import Derived.Laws.BytesString
import Derived.Deep.CutRange
import Derived.RangeFuncNested
import Derived.RangeFuncBound
import Derived.RangeFuncCalls
import Derived.RangeFuncLeaves
import Derived.Shelf.Abstract
import Derived.Shelf.RegionOpen
import Derived.OwnWalkIn
import Derived.TacticsInMore
import Derived.LoopNIn
import Derived.LoopIn
import GoSem.Claim
import GoSem.ClaimJoined
import GoSem.ClaimMapViews
import Derived.JoinedTies
import Derived.KernelRfl
import Derived.Deep.OwnRows
import Derived.Lib.LaidTab
import Derived.JoinedCond
import Derived.ShutString
import Derived.ChangeOld
import Derived.Below
import Derived.Carry
import Derived.ChangeSlices
import Derived.Deep.Slices
import Derived.Deep.DeepHandedRow
import Derived.RowKit
import Derived.ChangeShapes
import Derived.SizedLaws
import Derived.ChangeMaps5
import Derived.Lib.Walk
import Derived.Lib.SliceRun
import Derived.Lib.AppendStr
import Derived.Lib.ConvBytes
import Derived.Deep.RegionHeld3
import Derived.Deep.MidRow
import Derived.Laws.MakeOwn
import Derived.Lib.SlBytesConst
import Derived.Test.YtllhmidpphlbhaaRows
import Derived.Test.YtllhmidpphlbhaaF35
import Derived.Test.YtllhmidpphlbhaaF36
namespace Go.Proofs.Ytllhmidpphlbhaa.ds
open Go.ChangeShapes Go.WideShapes Go.ChangeAt Go.RowKit Go.Sort
set_option linter.unusedVariables false
set_option linter.unusedSimpArgs false

/-- bytes that can be read, with room behind them -/
structure Pb (w : World) (s : Sl) (B : List Nat) : Prop where
  rd : Rd w s.p (byts B)
  len : B.length = s.n
  b8 : ∀ b ∈ B, b < 256
  cap : s.n ≤ s.c
  ok : s.ok
  lim : s.n ≤ 1073741824
theorem Pb.kept0 {w w' : World} {s : Sl} {B : List Nat} (h : Pb w s B) (a : Apart [] w w') : Pb w' s B := { h with rd := h.rd.kept0 a }
/-- a page's reader over such bytes -/
theorem Pb.reader {w : World} {s : Sl} {B : List Nat} (h : Pb w s B) (hn : s.n = 2048) : ∃ P o, s.p = some ⟨P, o, none⟩ ∧ P < w.heap.size ∧ ∀ w1 R, Apart [] w w1 → w.heap.size ≤ R → w1.heap[R]? = some (.cells #[.slice s.p s.n s.c, .int .i64 0, .bool false] 97 (0, 0)) → PR w1 R P o s.c B ⟨0, false⟩ := by
  have hl := h.len
  obtain ⟨P, o, e, hP, hc⟩ := h.rd (by simp [byts]; omega)
  refine ⟨P, o, e, hP, fun w1 R a hR hb => ⟨?_, ?_, by omega, h.b8, by show 0 ≤ 2048; omega, by have := h.cap; omega, by omega⟩⟩
  · rw [hb, e, hn]; rfl
  · have := h.rd.kept0 a
    rw [e] at this; exact this
theorem hd_room {B : List Nat} : (headR B ⟨0, false⟩).2.at_ ≤ 19 ∧ (headR B ⟨0, false⟩).1.m ≤ 16 ∧ ((headR B ⟨0, false⟩).1.k ≠ 1 → (headR B ⟨0, false⟩).1.m ≤ 8) := by
  have h := headR_at B ⟨0, false⟩
  dsimp only at h
  exact ⟨by omega, h.2.2.2.1, h.2.2.2.2.1⟩
theorem keyV_one (P o : Nat) (h : Ph) : (keyV P o h).oneCell' = true := by unfold keyV; split <;> rfl

set_option maxHeartbeats 8000000 in
set_option maxRecDepth 100000 in
theorem check_ok {w : World} {s : Sl} {B : List Nat} (h : Pb w s B) :
    Calls Try.prog 18 #[.slice s.p s.n s.c] w fun e w' => e = .returned (.tuple #[.int .i64 ((checkR B).1 : Nat), .int .i64 ((checkR B).2.1 : Nat), .int .i64 ((checkR B).2.2 : Nat)]) ∧ Apart [] w w' := by
  have HP := hid h
  have hlim := h.lim
  have hl := h.len
  by_cases hn : s.n = 2048
  · obtain ⟨P, o, hp, hPl, hrd⟩ := h.reader hn
    have HCK : Hid (checkR B = if (endR B).bad = true then (0, (endR B).at_, 70) else ((bodyR B).1.k, 0, 0)) := by unfold Hid checkR; rw [if_pos (by omega)]
    obtain ⟨R, HXR⟩ : ∃ X, Hid (X = w.heap.size) := ⟨_, rfl⟩
    obtain ⟨w1, hw1⟩ : ∃ W, W = w.alloc (.cells #[.slice s.p s.n s.c, .int .i64 0, .bool false] 97) := ⟨_, rfl⟩
    have HW1 : Hid (Apart [] w w1) := by unfold Hid; rw [hw1]; exact (Apart.refl [] w).alloc _
    have HR : Hid (PR w1 R P o s.c B ⟨0, false⟩) := hrd w1 R HW1.out (by rw [HXR.out]; exact Nat.le_refl _) (by rw [HXR.out, hw1]; exact heap_alloc_new w _)
    have HA : Hid (Apart [R] w1 w1) := Apart.refl _ _
    have HLR : Hid (w.heap.size ≤ R) := by unfold Hid; rw [HXR.out]; exact Nat.le_refl _
    have HFIN : Hid (∀ z, Apart [R] w1 z → Apart [] w z) := fun z a => HW1.out.trans' a (by intro y hy; simp at hy; rw [hy]; exact .inr HLR.out)
    have HC1 := fun W (hW : PR W R P o s.c B ⟨0, false⟩) => hid (head_ok hW (fun _ => by dsimp only; omega))
    have HRM := hid (hd_room (B := B))
    have HBO : Hid (bodyR B = ((headR B ⟨0, false⟩).1, if (headR B ⟨0, false⟩).1.k = 1 then (clocksR B (headR B ⟨0, false⟩).1.m 0 (headR B ⟨0, false⟩).2).2 else (writesR B (headR B ⟨0, false⟩).1.m 0 0 (headR B ⟨0, false⟩).2).2)) := rfl
    generalize headR B ⟨0, false⟩ = x at *
    obtain ⟨hd, s1⟩ := x
    dsimp only at HC1 HRM HBO
    have HC2 := fun W (hW : PR W R P o s.c B s1) => hid (clocks_ok hW hd.m (by have := HRM.out; omega) (fun hb => by have := HRM.out; omega))
    have HC3 := fun W (hW : PR W R P o s.c B s1) (hk : hd.k ≠ 1) => hid (writes_ok hW hd.m (by have := HRM.out; omega) (fun hb => by have := HRM.out; have := this.2.2 hk; omega))
    have hni : ((s.n : Nat) : Int) = 2048 := by omega
    clear h hrd hl hlim HRM hp hn hPl
    go_enter Try.func18, Try.ntmps18
    go_wp2_with fail
    rw [← hw1, ← HXR.out]
    clear hw1 HXR
    refine (HC1 _ HR.out).out.mono ?_
    rintro _ w2 ⟨rfl, rw2, aw2⟩
    replace HR := hid rw2
    replace HA := hid (HA.out.trans aw2)
    clear rw2 aw2 HC1
    have HKV := hid (keyV_one P o hd)
    unfold hdV
    generalize keyV P o hd = kv at *
    obtain ⟨H, HXH⟩ : ∃ X, Hid (X = w2.heap.size) := ⟨_, rfl⟩
    obtain ⟨w3, hw3⟩ : ∃ W, W = w2.alloc (.cells #[.int .i64 0, .int .i64 0, .int .i64 0, .int .i64 0, .slice none 0 0] 99) := ⟨_, rfl⟩
    have HSw3 : Hid (Apart [] w2 w3) := by unfold Hid; rw [hw3]; exact (Apart.refl [] w2).alloc _
    have HBH : Hid (w3.heap[H]? = some (.cells #[.int .i64 0, .int .i64 0, .int .i64 0, .int .i64 0, .slice none 0 0] 99 (0, 0))) := by unfold Hid; rw [HXH.out, hw3]; exact heap_alloc_new w2 _
    have HNH_R : Hid (H ≠ R) := by unfold Hid; have := lt_of_heap HR.out.blk; rw [HXH.out]; omega
    have HNH_P : Hid (P ≠ H) := by unfold Hid; have := HR.out.lt; rw [HXH.out]; omega
    have HLH : Hid (w1.heap.size ≤ H) := by unfold Hid; rw [HXH.out]; exact HA.out.size
    replace HR := hid (HR.out.kept0 HSw3.out)
    replace HA := hid (HA.out.trans (HSw3.out.mono (by simp)))
    obtain ⟨w4, hw4⟩ : ∃ W, W = w3.setCells H 0 (hdL hd.k hd.g hd.o hd.m kv) := ⟨_, rfl⟩
    have HSw4 : Hid (Apart [H] w3 w4) := by unfold Hid; rw [hw4]; exact apart_setCells _ _ _ (Apart.refl _ _) (.inl (by simp))
    have HBH2 : Hid (w4.heap[H]? = some (.cells (hdL hd.k hd.g hd.o hd.m kv).toArray 99 (0, 0))) := by
      unfold Hid; rw [hw4]
      have := heap_setCells_same (hdL hd.k hd.g hd.o hd.m kv) 0 w3 _ HBH.out
      rw [spl_all (by rfl)] at this
      exact this
    replace HR := hid (HR.out.kept HSw4.out (by simp; exact HNH_R.out.symm) (by simp; exact HNH_P.out))
    replace HA := hid (HA.out.trans' HSw4.out (by intro y hy; simp at hy; rw [hy]; exact .inr HLH.out))
    clear HBH
    have HT : Hid ((w2.alloc (.cells #[.int .i64 0, .int .i64 0, .int .i64 0, .int .i64 0, .slice none 0 0] 99)).there w2.heap.size 0 (hdL hd.k hd.g hd.o hd.m kv).toArray.size) := there_of (heap_alloc_new w2 _) 0 _ (by show 0 + 5 ≤ 5; omega)
    rename_i K1 hK1
    refine hK1 _ _ ?_
    clear hK1
    refine wpList_cutat 1 (fun a' w' => Hid (wpList _ _ _ (List.drop 1 _) a' w')) (fun T hT => ?_) (fun _ _ h => h)
    dsimp only [List.take, List.cons_append, List.nil_append, List.append]
    go_wp2_with fail
    refine hT _ _ ?_
    clear hT T
    unfold Hid
    dsimp only [List.drop]
    refine wpList_store_mid rfl 99 (.tmp 6) (.tmp 15) rfl _ 0 (hdL hd.k hd.g hd.o hd.m kv).toArray rfl rfl HT.out size99 (hdL_one _ _ _ _ _ HKV.out) ?_
    rw [show (hdL hd.k hd.g hd.o hd.m kv).toArray.toList = hdL hd.k hd.g hd.o hd.m kv from rfl, ← hw3, ← HXH.out, ← hw4]
    clear HT hw3 HXH hw4
    obtain ⟨y0, y1, y2, y3, y4⟩ := cells_hd HBH2.out
    by_cases hk : hd.k = 1
    · have hki : ((hd.k : Nat) : Int) = 1 := by omega
      go_wp2_with fail
      clear y0 y1 y2 y3 y4
      refine (HC2 _ HR.out).out.mono ?_
      rintro _ w5 ⟨⟨rfl, rw5, aw5⟩, _⟩
      replace HR := hid rw5
      have HBH3 := hid (keepB aw5 HBH2.out HNH_R.out)
      replace HA := hid (HA.out.trans aw5)
      clear rw5 aw5 HC2 HC3
      dsimp only
      go_wp2_with fail
      refine (zeros_ok HR.out).mono ?_
      rintro _ w6 ⟨rfl, rw6, aw6⟩
      replace HR := hid rw6
      replace HBH3 := hid (keepB aw6 HBH3.out HNH_R.out)
      replace HA := hid (HA.out.trans aw6)
      clear rw6 aw6
      dsimp only
      have HEN : Hid (endR B = zerosR B 2048 (clocksR B hd.m 0 s1).2) := by unfold Hid endR; rw [HBO.out]; dsimp only; rw [if_pos hk]
      have HBK : Hid ((bodyR B).1.k = hd.k) := by unfold Hid; rw [HBO.out]
      rw [← HEN.out] at HR
      generalize endR B = en at *
      obtain ⟨q, b⟩ := en
      dsimp only at HCK
      obtain ⟨r0, r1, r2, r3, r4⟩ := HR.out.cells
      dsimp only at r1 r2
      obtain ⟨y0, y1, y2, y3, y4⟩ := cells_hd HBH3.out
      cases b with
      | true =>
        have HCK2 : Hid (checkR B = (0, q, 70)) := by unfold Hid; rw [HCK.out]; simp
        go_upto_region 10 with fail
        clear r0 r1 r2 r3 r4 y0 y1 y2 y3 y4
        refine wp_region_held_drew (S := fun W => Apart [] w6 W) (by kernel_rfl) (Apart.refl [] w6).drew (fun hHeld => ?_)
        have Twd : Hid (Apart [] w6 w6.drew) := (Apart.refl [] w6).drew
        have HC : Hid (∀ W, Apart [] w6 W → W.cell? ⟨R, 1, none⟩ = some (.int .i64 (q : Nat))) := fun W a => (HR.out.kept0 a).cells.2.1
        generalize w6.drew = wd at *
        refine tk 0 28 (.pointer (some ⟨R, 1, none⟩)) rfl ?_ ?_
        · intro W hSW; go_simp
        simp only [Act.put, List.setIfInBounds_toArray, List.set_cons_zero, List.set_cons_succ]
        refine tk 1 29 (.int .i64 (q : Nat)) rfl ?_ ?_
        · intro W hSW; have z1 := HC.out W hSW; go_simp
        simp only [Act.put, List.setIfInBounds_toArray, List.set_cons_zero, List.set_cons_succ]
        refine tk 2 2 (.int .i64 0) rfl ?_ ?_
        · intro W hSW; go_simp
        simp only [Act.put, List.setIfInBounds_toArray, List.set_cons_zero, List.set_cons_succ]
        refine tk 3 3 (.int .i64 (q : Nat)) rfl ?_ ?_
        · intro W hSW; go_simp
        simp only [Act.put, List.setIfInBounds_toArray, List.set_cons_zero, List.set_cons_succ]
        refine tk 4 4 (.int .i64 70) rfl ?_ ?_
        · intro W hSW; go_simp
        simp only [Act.put, List.setIfInBounds_toArray, List.set_cons_zero, List.set_cons_succ]
        refine wpAnyH_done (by kernel_rfl) ?_ _
        clear hHeld
        go_wp2_with fail
        go_ret3
        rw [HCK2.out]
        exact ⟨rfl, (HFIN.out _ HA.out).trans Twd.out⟩
      | false =>
        have HCK2 : Hid (checkR B = (hd.k, 0, 0)) := by unfold Hid; rw [HCK.out, HBK.out]; simp
        go_wp2_with fail
        go_ret3
        rw [HCK2.out]
        first | exact ⟨rfl, HFIN.out _ HA.out⟩ | exact ⟨by rw [hk]; rfl, HFIN.out _ HA.out⟩
    · have hki : ¬ ((hd.k : Nat) : Int) = 1 := by omega
      go_wp2_with fail
      clear y0 y1 y2 y3 y4
      refine (HC3 _ HR.out hk).out.mono ?_
      rintro _ w5 ⟨⟨rfl, rw5, aw5⟩, _⟩
      replace HR := hid rw5
      have HBH3 := hid (keepB aw5 HBH2.out HNH_R.out)
      replace HA := hid (HA.out.trans aw5)
      clear rw5 aw5 HC2 HC3
      dsimp only
      go_wp2_with fail
      refine (zeros_ok HR.out).mono ?_
      rintro _ w6 ⟨rfl, rw6, aw6⟩
      replace HR := hid rw6
      replace HBH3 := hid (keepB aw6 HBH3.out HNH_R.out)
      replace HA := hid (HA.out.trans aw6)
      clear rw6 aw6
      dsimp only
      have HEN : Hid (endR B = zerosR B 2048 (writesR B hd.m 0 0 s1).2) := by unfold Hid endR; rw [HBO.out]; dsimp only; rw [if_neg hk]
      have HBK : Hid ((bodyR B).1.k = hd.k) := by unfold Hid; rw [HBO.out]
      rw [← HEN.out] at HR
      generalize endR B = en at *
      obtain ⟨q, b⟩ := en
      dsimp only at HCK
      obtain ⟨r0, r1, r2, r3, r4⟩ := HR.out.cells
      dsimp only at r1 r2
      obtain ⟨y0, y1, y2, y3, y4⟩ := cells_hd HBH3.out
      cases b with
      | true =>
        have HCK2 : Hid (checkR B = (0, q, 70)) := by unfold Hid; rw [HCK.out]; simp
        go_upto_region 10 with fail
        clear r0 r1 r2 r3 r4 y0 y1 y2 y3 y4
        refine wp_region_held_drew (S := fun W => Apart [] w6 W) (by kernel_rfl) (Apart.refl [] w6).drew (fun hHeld => ?_)
        have Twd : Hid (Apart [] w6 w6.drew) := (Apart.refl [] w6).drew
        have HC : Hid (∀ W, Apart [] w6 W → W.cell? ⟨R, 1, none⟩ = some (.int .i64 (q : Nat))) := fun W a => (HR.out.kept0 a).cells.2.1
        generalize w6.drew = wd at *
        refine tk 0 28 (.pointer (some ⟨R, 1, none⟩)) rfl ?_ ?_
        · intro W hSW; go_simp
        simp only [Act.put, List.setIfInBounds_toArray, List.set_cons_zero, List.set_cons_succ]
        refine tk 1 29 (.int .i64 (q : Nat)) rfl ?_ ?_
        · intro W hSW; have z1 := HC.out W hSW; go_simp
        simp only [Act.put, List.setIfInBounds_toArray, List.set_cons_zero, List.set_cons_succ]
        refine tk 2 2 (.int .i64 0) rfl ?_ ?_
        · intro W hSW; go_simp
        simp only [Act.put, List.setIfInBounds_toArray, List.set_cons_zero, List.set_cons_succ]
        refine tk 3 3 (.int .i64 (q : Nat)) rfl ?_ ?_
        · intro W hSW; go_simp
        simp only [Act.put, List.setIfInBounds_toArray, List.set_cons_zero, List.set_cons_succ]
        refine tk 4 4 (.int .i64 70) rfl ?_ ?_
        · intro W hSW; go_simp
        simp only [Act.put, List.setIfInBounds_toArray, List.set_cons_zero, List.set_cons_succ]
        refine wpAnyH_done (by kernel_rfl) ?_ _
        clear hHeld
        go_wp2_with fail
        go_ret3
        rw [HCK2.out]
        exact ⟨rfl, (HFIN.out _ HA.out).trans Twd.out⟩
      | false =>
        have HCK2 : Hid (checkR B = (hd.k, 0, 0)) := by unfold Hid; rw [HCK.out, HBK.out]; simp
        go_wp2_with fail
        go_ret3
        rw [HCK2.out]
        first | exact ⟨rfl, HFIN.out _ HA.out⟩ | exact ⟨by rw [hk]; rfl, HFIN.out _ HA.out⟩
  · have HCK : Hid (checkR B = (0, min s.n 2048, 70)) := by unfold Hid checkR; rw [if_neg (by omega), hl]
    have hni : ¬ ((s.n : Nat) : Int) = 2048 := by omega
    clear h hl hn
    go_enter Try.func18, Try.ntmps18
    go_wp2_with fail
    go_ret3
    rw [HCK.out]
    exact ⟨by rw [show ((0, min s.n 2048, 70) : Nat × Nat × Nat).2.1 = min s.n 2048 from rfl, show ((min s.n 2048 : Nat) : Int) = min (s.n : Int) 2048 from by omega]; rfl, Apart.refl _ _⟩
end Go.Proofs.Ytllhmidpphlbhaa.ds
namespace Go.Proofs.Ytllhmidpphlbhaa.ds
open Go.ChangeShapes Go.WideShapes Go.ChangeAt Go.RowKit Go.Sort
set_option linter.unusedVariables false
set_option linter.unusedSimpArgs false
theorem hdV_lit (P o : Nat) (h : Ph) : hdV P o h = .agg #[.int .i64 (h.k : Nat), .int .i64 (h.g : Nat), .int .i64 (h.o : Nat), .int .i64 (h.m : Nat), keyV P o h] := rfl
set_option maxRecDepth 100000 in
theorem fld99_0 (w : World) (a b c d : Int) (e : Value) : (Instr.field 99 (.agg #[.int .i64 a, .int .i64 b, .int .i64 c, .int .i64 d, e]) 0).run Try.prog w = .ok (.int .i64 a) w := by kernel_rfl
set_option maxRecDepth 100000 in
theorem fld99_1 (w : World) (a b c d : Int) (e : Value) : (Instr.field 99 (.agg #[.int .i64 a, .int .i64 b, .int .i64 c, .int .i64 d, e]) 1).run Try.prog w = .ok (.int .i64 b) w := by kernel_rfl
set_option maxRecDepth 100000 in
theorem fld99_2 (w : World) (a b c d : Int) (e : Value) : (Instr.field 99 (.agg #[.int .i64 a, .int .i64 b, .int .i64 c, .int .i64 d, e]) 2).run Try.prog w = .ok (.int .i64 c) w := by kernel_rfl
set_option maxRecDepth 100000 in
theorem fld99_3 (w : World) (a b c d : Int) (e : Value) : (Instr.field 99 (.agg #[.int .i64 a, .int .i64 b, .int .i64 c, .int .i64 d, e]) 3).run Try.prog w = .ok (.int .i64 d) w := by kernel_rfl
set_option maxRecDepth 100000 in
theorem fld99_4 (w : World) (a b c d : Int) (e : Value) : (Instr.field 99 (.agg #[.int .i64 a, .int .i64 b, .int .i64 c, .int .i64 d, e]) 4).run Try.prog w = .ok e w := by kernel_rfl
theorem checkR_e (B : List Nat) : (checkR B).2.2 = 0 ∨ (checkR B).2.2 = 70 := by
  unfold checkR
  split
  · split
    · exact .inr rfl
    · exact .inl rfl
  · exact .inr rfl
/-- a view in memory -/
def Vw (w : World) (V : Nat) (s : Sl) : Prop := w.heap[V]? = some (.cells #[.slice s.p s.n s.c] 110 (0, 0))
/-- what Open leaves -/
structure OpP (w w' : World) (s : Sl) (B : List Nat) (e : Ending) : Prop where
  a : Apart [] w w'
  no : (checkR B).2.2 ≠ 0 → e = .returned (.tuple #[.pointer none, .int .i64 70])
  ok : (checkR B).2.2 = 0 → ∃ V, e = .returned (.tuple #[.pointer (some ⟨V, 0, none⟩), .int .i64 0]) ∧ w.heap.size ≤ V ∧ Vw w' V s
set_option maxHeartbeats 4000000 in
set_option maxRecDepth 100000 in
theorem open_ok {w : World} {s : Sl} {B : List Nat} (h : Pb w s B) : Calls Try.prog 19 #[.slice s.p s.n s.c] w fun e w' => OpP w w' s B e := by
  have HC := hid (check_ok h)
  have HE := hid (checkR_e B)
  have HO : Hid (∀ w' e, Apart [] w w' → ((checkR B).2.2 ≠ 0 → e = .returned (.tuple #[.pointer none, .int .i64 70])) → ((checkR B).2.2 = 0 → ∃ V, e = .returned (.tuple #[.pointer (some ⟨V, 0, none⟩), .int .i64 0]) ∧ w.heap.size ≤ V ∧ Vw w' V s) → OpP w w' s B e) := fun w' e a b c => ⟨a, b, c⟩
  generalize checkR B = ck at HC HE HO
  obtain ⟨k, q, er⟩ := ck
  dsimp only at HC HE HO
  clear h
  go_enter Try.func19, Try.ntmps19
  go_wp2_with fail
  refine HC.out.mono ?_
  rintro _ w1 ⟨rfl, a1⟩
  have HA1 := hid a1
  clear a1
  dsimp only
  rcases HE.out with h0 | h0
  · subst h0
    go_wp2_with fail
    go_ret2
    exact HO.out _ _ (HA1.out.trans ((Apart.refl [] w1).alloc _)) (fun h => absurd rfl h) (fun _ => ⟨w1.heap.size, rfl, HA1.out.size, heap_alloc_new w1 _⟩)
  · subst h0
    go_wp2_with fail
    go_ret2
    exact HO.out _ _ HA1.out (fun _ => rfl) (fun h => absurd h (by decide))
set_option maxHeartbeats 4000000 in
set_option maxRecDepth 100000 in
theorem vhead_ok {w : World} {s : Sl} {B : List Nat} {V : Nat} (h : Pb w s B) (hn : s.n = 2048) (hv : Vw w V s) : ∃ P o, s.p = some ⟨P, o, none⟩ ∧ Calls Try.prog 51 #[.pointer (some ⟨V, 0, none⟩)] w fun e w' => e = .returned (hdV P o (headR B ⟨0, false⟩).1) ∧ Apart [] w w' := by
  obtain ⟨P, o, hp, hPl, hrd⟩ := h.reader hn
  refine ⟨P, o, hp, ?_⟩
  have HV := hid hv
  obtain ⟨D, HXD⟩ : ∃ X, Hid (X = w.heap.size) := ⟨_, rfl⟩
  obtain ⟨w1, hw1⟩ : ∃ W, W = w.alloc (.cells #[.int .i64 0, .int .i64 0, .int .i64 0, .int .i64 0, .slice none 0 0] 99) := ⟨_, rfl⟩
  have HS1 : Hid (Apart [] w w1) := by unfold Hid; rw [hw1]; exact (Apart.refl [] w).alloc _
  have HBD : Hid (w1.heap[D]? = some (.cells (hdL 0 0 0 0 (.slice none 0 0)).toArray 99 (0, 0))) := by unfold Hid; rw [HXD.out, hw1]; exact heap_alloc_new w _
  obtain ⟨R, HXR⟩ : ∃ X, Hid (X = w1.heap.size) := ⟨_, rfl⟩
  obtain ⟨w2, hw2⟩ : ∃ W, W = w1.alloc (.cells #[.slice s.p s.n s.c, .int .i64 0, .bool false] 97) := ⟨_, rfl⟩
  have HS2 : Hid (Apart [] w1 w2) := by unfold Hid; rw [hw2]; exact (Apart.refl [] w1).alloc _
  have HA2 := hid (HS1.out.trans HS2.out)
  have HR : Hid (PR w2 R P o s.c B ⟨0, false⟩) := hrd w2 R HA2.out (by rw [HXR.out]; exact HS1.out.size) (by rw [HXR.out, hw2]; exact heap_alloc_new w1 _)
  have HBD2 := hid (keep0 HS2.out HBD.out)
  have HDR : Hid (D ≠ R) := by unfold Hid; have := lt_of_heap HBD.out; rw [HXR.out]; omega
  have HLR : Hid (w.heap.size ≤ R) := by unfold Hid; rw [HXR.out]; exact HS1.out.size
  have HLD : Hid (w.heap.size ≤ D) := by unfold Hid; rw [HXD.out]; exact Nat.le_refl _
  have HC := hid (head_ok HR.out (fun _ => by dsimp only; omega))
  have zv : w1.cell? ⟨V, 0, none⟩ = some (.slice s.p s.n s.c) := by rw [cell_of_row _ _ _ _ _ _ (keep0 HS1.out HV.out)]; rfl
  clear h hrd hv hp hn hPl
  rw [hw1] at zv
  go_enter Try.func51, Try.ntmps51
  go_wp2_with fail
  have heR : D + 1 = R := by rw [HXR.out, hw1, HXD.out]; exact (Array.size_push _).symm
  clear zv
  rw [← hw1, ← hw2, ← HXD.out, heR]
  clear hw1 hw2 heR HXD HXR
  refine HC.out.mono ?_
  rintro _ w3 ⟨rfl, r3, a3⟩
  clear r3
  have HA3 := hid (HA2.out.trans' a3 (by intro y hy; simp at hy; rw [hy]; exact .inr HLR.out))
  have HBD3 := hid (keepB a3 HBD2.out HDR.out)
  clear a3 HC
  dsimp only
  have HKV := hid (keyV_one P o (headR B ⟨0, false⟩).1)
  unfold hdV
  obtain ⟨hd, Hhd⟩ : ∃ hd, Hid (hd = (headR B ⟨0, false⟩).1) := ⟨_, rfl⟩
  rw [← Hhd.out] at HKV ⊢
  obtain ⟨kv, Hkv⟩ : ∃ kv, Hid (kv = keyV P o hd) := ⟨_, rfl⟩
  rw [← Hkv.out] at HKV ⊢
  rename_i K1 hK1
  refine hK1 _ _ ?_
  clear hK1
  refine wpList_cutat 0 (fun a' w' => Hid (wpList _ _ _ (List.drop 0 _) a' w')) (fun T hT => ?_) (fun _ _ h => h)
  dsimp only [List.take, List.cons_append, List.nil_append, List.append]
  go_wp2_with fail
  refine hT _ _ ?_
  clear hT T
  unfold Hid
  dsimp only [List.drop]
  refine wpList_store_mid rfl 99 (.tmp 2) (.tmp 9) rfl D 0 (hdL hd.k hd.g hd.o hd.m kv).toArray rfl rfl (there_of HBD3.out _ _ (by show 0 + 5 ≤ 5; omega)) size99 (hdL_one _ _ _ _ _ HKV.out) ?_
  obtain ⟨z, hz⟩ : ∃ z, z = w3.setCells D 0 (hdL hd.k hd.g hd.o hd.m kv) := ⟨_, rfl⟩
  rw [show (hdL hd.k hd.g hd.o hd.m kv).toArray.toList = hdL hd.k hd.g hd.o hd.m kv from rfl, ← hz]
  have b : Apart [D] w3 z := by rw [hz]; exact apart_setCells _ _ _ (Apart.refl _ _) (.inl (by simp))
  have HAz := hid (HA3.out.trans' b (by intro y hy; simp at hy; rw [hy]; exact .inr HLD.out))
  have HBz : Hid (z.heap[D]? = some (.cells (hdL hd.k hd.g hd.o hd.m kv).toArray 99 (0, 0))) := by
    unfold Hid; rw [hz]
    have := heap_setCells_same (hdL hd.k hd.g hd.o hd.m kv) 0 w3 _ HBD3.out
    rw [spl_all (by rfl)] at this
    exact this
  clear b hz
  go_wp2_with fail
  refine bodyPost_ret (results_cell_row rfl _ _ D 99 _ _ _ rfl HBz.out Try.underlying99 rfl size99) rfl ?_
  rw [← Hhd.out]
  unfold hdV
  rw [← Hkv.out]
  exact ⟨rfl, HAz.out⟩
set_option maxHeartbeats 4000000 in
set_option maxRecDepth 100000 in
theorem vkind_ok {w : World} {s : Sl} {B : List Nat} {V : Nat} (h : Pb w s B) (hn : s.n = 2048) (hv : Vw w V s) : Calls Try.prog 29 #[.pointer (some ⟨V, 0, none⟩)] w fun e w' => e = .returned (.int .i64 ((headR B ⟨0, false⟩).1.k : Nat)) ∧ Apart [] w w' := by
  obtain ⟨P, o, hp, hc⟩ := vhead_ok h hn hv
  skip
  have HC := hid hc
  clear h hn hv hc
  go_enter Try.func29, Try.ntmps29
  go_wp2_with fail
  refine HC.out.mono ?_
  rintro _ w1 ⟨rfl, a1⟩
  have HA := hid a1
  clear a1 HC
  dsimp only
  rw [hdV_lit]
  have hf := fld99_0 w1
  go_wp2_with fail
  go_ret
  exact ⟨rfl, HA.out⟩
set_option maxHeartbeats 4000000 in
set_option maxRecDepth 100000 in
theorem vlen_ok {w : World} {s : Sl} {B : List Nat} {V : Nat} (h : Pb w s B) (hn : s.n = 2048) (hv : Vw w V s) : Calls Try.prog 20 #[.pointer (some ⟨V, 0, none⟩)] w fun e w' => e = .returned (.int .i64 ((headR B ⟨0, false⟩).1.m : Nat)) ∧ Apart [] w w' := by
  obtain ⟨P, o, hp, hc⟩ := vhead_ok h hn hv
  skip
  have HC := hid hc
  clear h hn hv hc
  go_enter Try.func20, Try.ntmps20
  go_wp2_with fail
  refine HC.out.mono ?_
  rintro _ w1 ⟨rfl, a1⟩
  have HA := hid a1
  clear a1 HC
  dsimp only
  rw [hdV_lit]
  have hf := fld99_3 w1
  go_wp2_with fail
  go_ret
  exact ⟨rfl, HA.out⟩
set_option maxHeartbeats 4000000 in
set_option maxRecDepth 100000 in
theorem vgen_ok {w : World} {s : Sl} {B : List Nat} {V : Nat} (h : Pb w s B) (hn : s.n = 2048) (hv : Vw w V s) : Calls Try.prog 30 #[.pointer (some ⟨V, 0, none⟩)] w fun e w' => e = .returned (.int .i64 ((headR B ⟨0, false⟩).1.g : Nat)) ∧ Apart [] w w' := by
  obtain ⟨P, o, hp, hc⟩ := vhead_ok h hn hv
  skip
  have HC := hid hc
  clear h hn hv hc
  go_enter Try.func30, Try.ntmps30
  go_wp2_with fail
  refine HC.out.mono ?_
  rintro _ w1 ⟨rfl, a1⟩
  have HA := hid a1
  clear a1 HC
  dsimp only
  rw [hdV_lit]
  have hf := fld99_1 w1
  go_wp2_with fail
  go_ret
  exact ⟨rfl, HA.out⟩
set_option maxHeartbeats 4000000 in
set_option maxRecDepth 100000 in
theorem vowner_ok {w : World} {s : Sl} {B : List Nat} {V : Nat} (h : Pb w s B) (hn : s.n = 2048) (hv : Vw w V s) : Calls Try.prog 31 #[.pointer (some ⟨V, 0, none⟩)] w fun e w' => e = .returned (.int .i64 ((headR B ⟨0, false⟩).1.o : Nat)) ∧ Apart [] w w' := by
  obtain ⟨P, o, hp, hc⟩ := vhead_ok h hn hv
  skip
  have HC := hid hc
  clear h hn hv hc
  go_enter Try.func31, Try.ntmps31
  go_wp2_with fail
  refine HC.out.mono ?_
  rintro _ w1 ⟨rfl, a1⟩
  have HA := hid a1
  clear a1 HC
  dsimp only
  rw [hdV_lit]
  have hf := fld99_2 w1
  go_wp2_with fail
  go_ret
  exact ⟨rfl, HA.out⟩
set_option maxHeartbeats 4000000 in
set_option maxRecDepth 100000 in
theorem vkey_ok {w : World} {s : Sl} {B : List Nat} {V : Nat} (h : Pb w s B) (hn : s.n = 2048) (hv : Vw w V s) : ∃ P o, s.p = some ⟨P, o, none⟩ ∧ Calls Try.prog 22 #[.pointer (some ⟨V, 0, none⟩)] w fun e w' => e = .returned (keyV P o (headR B ⟨0, false⟩).1) ∧ Apart [] w w' := by
  obtain ⟨P, o, hp, hc⟩ := vhead_ok h hn hv
  refine ⟨P, o, hp, ?_⟩
  have HC := hid hc
  clear h hn hv hc
  go_enter Try.func22, Try.ntmps22
  go_wp2_with fail
  refine HC.out.mono ?_
  rintro _ w1 ⟨rfl, a1⟩
  have HA := hid a1
  clear a1 HC
  dsimp only
  rw [hdV_lit]
  have hf := fld99_4 w1
  go_wp2_with fail
  go_ret
  exact ⟨rfl, HA.out⟩
end Go.Proofs.Ytllhmidpphlbhaa.ds
