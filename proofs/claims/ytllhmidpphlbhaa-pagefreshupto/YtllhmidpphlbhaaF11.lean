import Derived.Deep.RegionHeld
import Derived.OrdersHeld
import Derived.WalkKit
import Derived.ProofKit
import Derived.Lib.TrailingZeros
import Derived.Test.YtllhmidpphlbhaaChecked
import Derived.OpenShut
import Derived.Deep.QuietTactic
import Derived.BigQuiet
import Derived.BigRegion
import Derived.Laws.CopyOwn
import Derived.Laws.Bits64b
import Derived.Laws.MathBits
import Derived.Laws.ShiftsVarLaws
import Derived.WalkSmall
import Derived.Laws.ResultCell
import Derived.Lib.BitFns
import Derived.Laws.StructEq
import Derived.ArgAppend
import Derived.Deep.RegionLaw
import Derived.Deep.DeepAppendRoom
import Derived.Sort.WalkA
import Derived.Laws.Strings
import Derived.Deep.CutBlock
import Derived.Great.BuildSlice
import Derived.Laws.AppendOwnNone
import Derived.Lib.Overlaps
import Derived.Lib.AppendZerosOnto
import Derived.Laws.NewBlocks
import Derived.Laws.Externs
import Derived.Laws.IdiomCopy
import Derived.Laws.BytesString
import Derived.Deep.CutRange
import Derived.RangeFuncNested
import Derived.RangeFuncBound
import Derived.RangeFuncCalls
import Derived.RangeFuncLeaves
import Derived.Shelf.Abstract
import Derived.Shelf.RegionOpen
import Derived.OwnWalkIn
import Derived.TacticsInMore
import Derived.LoopNIn
import Derived.LoopIn
import GoSem.Claim
import GoSem.ClaimJoined
import GoSem.ClaimMapViews
import Derived.JoinedTies
import Derived.KernelRfl
import Derived.Deep.OwnRows
import Derived.Lib.LaidTab
import Derived.JoinedCond
import Derived.ShutString
import Derived.ChangeOld
import Derived.Below
import Derived.Carry
import Derived.ChangeSlices
import Derived.Deep.Slices
import Derived.Deep.DeepHandedRow
import Derived.RowKit
import Derived.ChangeShapes
import Derived.SizedLaws
import Derived.ChangeMaps5
import Derived.Lib.Walk
import Derived.Lib.SliceRun
import Derived.Lib.AppendStr
import Derived.Lib.ConvBytes
import Derived.Deep.RegionHeld3
import Derived.Deep.MidRow
import Derived.Laws.MakeOwn
import Derived.Lib.SlBytesConst
import Derived.Test.YtllhmidpphlbhaaRows
import Derived.Test.YtllhmidpphlbhaaF10
namespace Go.Proofs.Ytllhmidpphlbhaa.ds
open Go.ChangeShapes Go.WideShapes Go.ChangeAt Go.RowKit Go.Sort
set_option linter.unusedVariables false
set_option linter.unusedSimpArgs false

theorem rowL {w : World} {gb : Nat} {x : S} (h : w.heap[gb]? = some (.cells #[.int .i64 x.n, .int .i64 x.b, .int .u64 (x.t : Int)] 85 (0, 0))) (ht : x.t < 2 ^ 64) : L w (some ⟨gb, 0, none⟩) 1 [x] := by
  obtain ⟨h0, h1, h2⟩ := row3v h
  refine ⟨fun _ => ⟨gb, 0, rfl, lt_of_heap h, fun i hi => ?_⟩, rfl, by omega, fun y hy => by simp at hy; rw [hy]; exact ht⟩
  simp at hi
  subst hi
  exact ⟨h0, h1, h2⟩
theorem okL1 (x : S) : OkL 64 [x] ↔ Ok 64 x := ⟨fun h => h.ok x (by simp), fun h => ⟨fun y hy => by simp at hy; rw [hy]; exact h, List.pairwise_singleton _ _⟩⟩
theorem ctx1 {x : S} {dn dc : Nat} (hn : dn ≤ 7) (hc : dc ≤ 1048576) : ctxS x dn dc = true ↔ OkL 64 [x] ∧ hasv [x] dn dc = false := by
  constructor
  · intro h
    obtain ⟨h1, h2⟩ := ctxS_ok h
    have ho := (okL1 x).2 h1
    exact ⟨ho, (hasv_iff ho hn hc).2 (fun y hy => by simp at hy; rw [hy]; exact h2)⟩
  · rintro ⟨h1, h2⟩
    unfold ctxS
    rw [(rgtS_iff x).2 ((okL1 x).1 h1), (hasv_iff h1 hn hc).1 h2 x (by simp)]; rfl
set_option maxHeartbeats 8000000 in
set_option maxRecDepth 100000 in
theorem span_ok {w : World} {R P o c : Nat} {B : List Nat} {s : Ps} (h : PR w R P o c B s) (lo dn dc : Nat) (hr : s.bad = false → s.at_ + 13 ≤ 2048) (hlo : lo ≤ 100) (hn : dn ≤ 7) (hc : dc ≤ 1048576) :
    Calls Try.prog 98 #[.pointer (some ⟨R, 0, none⟩), .int .i64 (lo : Nat), .agg #[.int .i64 (dn : Nat), .int .i64 (dc : Nat)]] w fun e w' => PO w w' R P o c B e (spv (spanR B lo dn dc s).1) (spanR B lo dn dc s).2 := by
  have HR := hid h
  have HA : Hid (Apart [R] w w) := Apart.refl _ _
  have HB8 := hid h.b8
  obtain ⟨a, Ha⟩ : ∃ a, Hid (a = num B 1 lo 7 s) := ⟨_, rfl⟩
  obtain ⟨b, Hb⟩ : ∃ b, Hid (b = num B 4 0 1048576 a.2) := ⟨_, rfl⟩
  have HAt : Hid (a.2.at_ ≤ s.at_ + 1 ∧ b.2.at_ ≤ s.at_ + 5) := by
    unfold Hid
    have h1 := num_at B 1 lo 7 s
    have h2 := num_at B 4 0 1048576 a.2
    rw [← Ha.out] at h1
    rw [← Hb.out] at h2
    omega
  have HG1 : Hid (a.2.bad = false → s.bad = false) := fun hb => num_ok1 (B := B) (k := 1) (lo := lo) (hi := 7) (by rw [← Ha.out]; exact hb)
  have HG2 : Hid (b.2.bad = false → a.2.bad = false) := fun hb => num_ok1 (B := B) (k := 4) (lo := 0) (hi := 1048576) (by rw [← Hb.out]; exact hb)
  have HE : Hid (spanR B lo dn dc s = if b.2.bad = true then (zS, b.2) else if ctxS ⟨a.1, b.1, le B 8 b.2.at_⟩ dn dc = true then (⟨a.1, b.1, le B 8 b.2.at_⟩, ⟨b.2.at_ + 8, false⟩) else (zS, ⟨b.2.at_, true⟩)) := by
    unfold Hid spanR
    dsimp only
    rw [← Ha.out, ← Hb.out]
  have HC1 := fun W (hW : PR W R P o c B s) => hid (number_ok hW 1 lo 7 ⟨by omega, by omega⟩ (fun hb => by have := hr hb; omega) (by omega) (by omega))
  rw [← Ha.out] at HC1
  have HC2 := fun W (hW : PR W R P o c B a.2) => hid (number_ok hW 4 0 1048576 ⟨by omega, by omega⟩ (fun hb => by have := hr (HG1.out hb); have := HAt.out; omega) (by omega) (by omega))
  rw [← Hb.out] at HC2
  have HC3 := fun W (hW : PR W R P o c B b.2) (hb : b.2.bad = false) => hid (peek_ok hW 8 ⟨by omega, by omega⟩ (by have := hr (HG1.out (HG2.out hb)); have := HAt.out; omega))
  have HNC : Hid (dn ≤ 7 ∧ dc ≤ 1048576) := ⟨hn, hc⟩
  have HRR : Hid (b.2.bad = false → b.2.at_ + 8 ≤ 2048) := fun hb => by have := hr (HG1.out (HG2.out hb)); have := HAt.out; omega
  clear h hr hlo hn hc HG1 HG2 HAt
  obtain ⟨an, as1⟩ := a
  obtain ⟨bn, bq, bb⟩ := b
  dsimp only at HC1 HC2 HC3 HE HRR
  obtain ⟨X, HXX⟩ : ∃ X, Hid (X = w.heap.size) := ⟨_, rfl⟩
  obtain ⟨w1, hw1⟩ : ∃ W, W = w.alloc (.cells #[.int .i64 (dn : Nat), .int .i64 (dc : Nat)] 47) := ⟨_, rfl⟩
  have HSw1 : Hid (Apart [] w w1) := by unfold Hid; rw [hw1]; exact (Apart.refl [] w).alloc _
  have HBX : Hid (w1.heap[X]? = some (.cells #[.int .i64 (dn : Nat), .int .i64 (dc : Nat)] 47 (0, 0))) := by unfold Hid; rw [HXX.out, hw1]; exact heap_alloc_new w _
  have HNX_R : Hid (X ≠ R) := by unfold Hid; have := lt_of_heap HR.out.blk; rw [HXX.out]; omega
  have HNX_P : Hid (P ≠ X) := by unfold Hid; have := HR.out.lt; rw [HXX.out]; omega
  have HLX : Hid (w.heap.size ≤ X) := by unfold Hid; rw [HXX.out]; exact HA.out.size
  replace HR := hid (HR.out.kept0 HSw1.out)
  replace HA := hid (HA.out.trans (HSw1.out.mono (by simp)))
  obtain ⟨D, HXD⟩ : ∃ X, Hid (X = w1.heap.size) := ⟨_, rfl⟩
  obtain ⟨w2, hw2⟩ : ∃ W, W = w1.alloc (.cells #[.int .i64 0, .int .i64 0, .int .u64 0] 85) := ⟨_, rfl⟩
  have HSw2 : Hid (Apart [] w1 w2) := by unfold Hid; rw [hw2]; exact (Apart.refl [] w1).alloc _
  have HBD : Hid (w2.heap[D]? = some (.cells #[.int .i64 0, .int .i64 0, .int .u64 0] 85 (0, 0))) := by unfold Hid; rw [HXD.out, hw2]; exact heap_alloc_new w1 _
  have HND_R : Hid (D ≠ R) := by unfold Hid; have := lt_of_heap HR.out.blk; rw [HXD.out]; omega
  have HND_P : Hid (P ≠ D) := by unfold Hid; have := HR.out.lt; rw [HXD.out]; omega
  have HND_X : Hid (D ≠ X) := by unfold Hid; have := lt_of_heap HBX.out; rw [HXD.out]; omega
  have HLD : Hid (w.heap.size ≤ D) := by unfold Hid; rw [HXD.out]; exact HA.out.size
  replace HR := hid (HR.out.kept0 HSw2.out)
  replace HA := hid (HA.out.trans (HSw2.out.mono (by simp)))
  replace HBX := hid (keep0 HSw2.out HBX.out)
  have heD : X + 1 = D := by rw [HXD.out, hw1, HXX.out]; exact (Array.size_push _).symm
  go_enter Try.func98, Try.ntmps98
  go_wp2_with fail
  rw [← hw1, ← HXX.out, ← hw2, heD]
  clear hw1 HXX hw2 HXD heD
  refine ((HC1 _ HR.out).out).mono ?_
  rintro _ w3 ⟨rfl, rw3, aw3⟩
  have HSw3 := hid aw3
  replace HR := hid rw3
  replace HA := hid (HA.out.trans aw3)
  clear rw3 aw3
  replace HBX := hid (keepB HSw3.out HBX.out HNX_R.out)
  replace HBD := hid (keepB HSw3.out HBD.out HND_R.out)
  dsimp only
  obtain ⟨G, HXG⟩ : ∃ X, Hid (X = w3.heap.size) := ⟨_, rfl⟩
  obtain ⟨w4, hw4⟩ : ∃ W, W = w3.alloc (.cells #[.int .i64 (an : Nat), .int .i64 0, .int .u64 0] 85) := ⟨_, rfl⟩
  have HSw4 : Hid (Apart [] w3 w4) := by unfold Hid; rw [hw4]; exact (Apart.refl [] w3).alloc _
  have HBG : Hid (w4.heap[G]? = some (.cells #[.int .i64 (an : Nat), .int .i64 0, .int .u64 0] 85 (0, 0))) := by unfold Hid; rw [HXG.out, hw4]; exact heap_alloc_new w3 _
  have HNG_R : Hid (G ≠ R) := by unfold Hid; have := lt_of_heap HR.out.blk; rw [HXG.out]; omega
  have HNG_P : Hid (P ≠ G) := by unfold Hid; have := HR.out.lt; rw [HXG.out]; omega
  have HNG_X : Hid (G ≠ X) := by unfold Hid; have := lt_of_heap HBX.out; rw [HXG.out]; omega
  have HNG_D : Hid (G ≠ D) := by unfold Hid; have := lt_of_heap HBD.out; rw [HXG.out]; omega
  have HLG : Hid (w.heap.size ≤ G) := by unfold Hid; rw [HXG.out]; exact HA.out.size
  replace HR := hid (HR.out.kept0 HSw4.out)
  replace HA := hid (HA.out.trans (HSw4.out.mono (by simp)))
  replace HBX := hid (keep0 HSw4.out HBX.out)
  replace HBD := hid (keep0 HSw4.out HBD.out)
  go_wp2_with fail
  rw [← hw4, ← HXG.out]
  clear hw4 HXG
  refine ((HC2 _ HR.out).out).mono ?_
  rintro _ w5 ⟨rfl, rw5, aw5⟩
  have HSw5 := hid aw5
  replace HR := hid rw5
  replace HA := hid (HA.out.trans aw5)
  clear rw5 aw5
  replace HBX := hid (keepB HSw5.out HBX.out HNX_R.out)
  replace HBD := hid (keepB HSw5.out HBD.out HND_R.out)
  replace HBG := hid (keepB HSw5.out HBG.out HNG_R.out)
  dsimp only
  clear HC1 HC2
  have HRold := HR
  have zG0 : w5.cell? ⟨G, 0, none⟩ = some (.int .i64 (an : Nat)) := by rw [cell_of_row _ _ _ _ _ _ HBG.out]; rfl
  have zG1 : w5.cell? ⟨G, 1, none⟩ = some (.int .i64 0) := by rw [cell_of_row _ _ _ _ _ _ HBG.out]; rfl
  have zG2 : w5.cell? ⟨G, 2, none⟩ = some (.int .u64 0) := by rw [cell_of_row _ _ _ _ _ _ HBG.out]; rfl
  have fG1 := frozen_of_row _ _ 1 _ _ HBG.out
  obtain ⟨w6, hw6⟩ : ∃ W, W = w5.setCell ⟨G, 1, none⟩ (.int .i64 (bn : Nat)) := ⟨_, rfl⟩
  have HSw6 : Hid (Apart [G] w5 w6) := by unfold Hid; rw [hw6]; exact (Apart.refl _ _).setCell (.inl (by simp)) _
  have HBG' : Hid (w6.heap[G]? = some (.cells #[.int .i64 (an : Nat), .int .i64 (bn : Nat), .int .u64 0] 85 (0, 0))) := by
    unfold Hid; rw [hw6]
    have := heap_setCell_same w5 G 1 _ 85 (.int .i64 (bn : Nat)) HBG.out
    simpa using this
  replace HBG := HBG'
  clear HBG'
  replace HR := hid (HR.out.kept HSw6.out (by simp; exact HNG_R.out.symm) (by simp; exact HNG_P.out))
  replace HA := hid (HA.out.trans' HSw6.out (by intro y hy; simp at hy; rw [hy]; exact .inr HLG.out))
  replace HBX := hid (keepB HSw6.out HBX.out HNG_X.out.symm)
  replace HBD := hid (keepB HSw6.out HBD.out HNG_D.out.symm)
  obtain ⟨r0, r1, r2, r3, r4⟩ := HR.out.cells
  rw [hw6] at r0 r1 r2 r3 r4
  dsimp only at r1 r2
  cases bb with
  | true =>
    have HE2 : Hid (spanR B lo dn dc s = (zS, ⟨bq, true⟩)) := by unfold Hid; rw [HE.out, if_pos rfl]
    go_upto_region 4 with fail
    rw [← hw6]
    clear hw6 r0 r1 r2 r3 r4 zG0 zG1 zG2 fG1
    have zD0 : w6.cell? ⟨D, 0, none⟩ = some (.int .i64 0) := by rw [cell_of_row _ _ _ _ _ _ HBD.out]; rfl
    have fD0 := frozen_of_row _ _ 0 _ _ HBD.out
    have zD1 : w6.cell? ⟨D, 1, none⟩ = some (.int .i64 0) := by rw [cell_of_row _ _ _ _ _ _ HBD.out]; rfl
    have fD1 := frozen_of_row _ _ 1 _ _ HBD.out
    have zD2 : w6.cell? ⟨D, 2, none⟩ = some (.int .u64 0) := by rw [cell_of_row _ _ _ _ _ _ HBD.out]; rfl
    have fD2 := frozen_of_row _ _ 2 _ _ HBD.out
    obtain ⟨w7, hw7⟩ : ∃ W, W = ((w6.setCell ⟨D, 0, none⟩ (.int .i64 0)).setCell ⟨D, 1, none⟩ (.int .i64 0)).setCell ⟨D, 2, none⟩ (.int .u64 0) := ⟨_, rfl⟩
    have HSw7 : Hid (Apart [D] w6 w7) := by unfold Hid; rw [hw7]; exact (((Apart.refl _ _).setCell (.inl (by simp)) _).setCell (.inl (by simp)) _).setCell (.inl (by simp)) _
    have HBD' : Hid (w7.heap[D]? = some (.cells #[.int .i64 0, .int .i64 0, .int .u64 0] 85 (0, 0))) := by
      unfold Hid; rw [hw7]
      have h1 := heap_setCell_same w6 D 0 _ 85 (.int .i64 0) HBD.out
      have h2 := heap_setCell_same _ D 1 _ 85 (.int .i64 0) h1
      have h3 := heap_setCell_same _ D 2 _ 85 (.int .u64 0) h2
      simpa using h3
    replace HR := hid (HR.out.kept HSw7.out (by simp; exact HND_R.out.symm) (by simp; exact HND_P.out))
    replace HA := hid (HA.out.trans' HSw7.out (by intro y hy; simp at hy; rw [hy]; exact .inr HLD.out))
    go_wp2_with fail
    rw [← hw7]
    refine bodyPost_ret (results_cell_row rfl _ _ D 85 _ _ _ rfl HBD'.out Try.underlying85 rfl size52) rfl ?_
    rw [HE2.out]
    exact ⟨rfl, HR.out, HA.out⟩
  | false =>
    have HE1 : Hid (spanR B lo dn dc s = if ctxS ⟨an, bn, le B 8 bq⟩ dn dc = true then (⟨an, bn, le B 8 bq⟩, ⟨bq + 8, false⟩) else (zS, ⟨bq, true⟩)) := by unfold Hid; rw [HE.out, if_neg (by simp)]
    go_wp2_with fail
    rw [← hw6]
    clear hw6 r0 r1 r2 r3 r4 zG0 zG1 zG2 fG1
    obtain ⟨t, Ht⟩ : ∃ t, Hid (t = le B 8 bq) := ⟨_, rfl⟩
    have ht64 : t < 2 ^ 64 := by rw [Ht.out]; have := le_lt HB8.out 8 bq; rw [show (256 : Nat) ^ 8 = 2 ^ 64 from by decide] at this; exact this
    refine ((HC3 _ HR.out (by first | trivial | rfl)).out).mono ?_
    rintro _ w7 ⟨rfl, aw7⟩
    have HSw7 := hid aw7
    replace HR := hid (HR.out.kept0 aw7)
    replace HA := hid (HA.out.trans (aw7.mono (by simp)))
    clear aw7
    replace HBX := hid (keep0 HSw7.out HBX.out)
    replace HBD := hid (keep0 HSw7.out HBD.out)
    replace HBG := hid (keep0 HSw7.out HBG.out)
    dsimp only
    rw [← Ht.out]
    rw [← Ht.out] at HE1
    have zG0 : w7.cell? ⟨G, 0, none⟩ = some (.int .i64 (an : Nat)) := by rw [cell_of_row _ _ _ _ _ _ HBG.out]; rfl
    have zG1 : w7.cell? ⟨G, 1, none⟩ = some (.int .i64 (bn : Nat)) := by rw [cell_of_row _ _ _ _ _ _ HBG.out]; rfl
    have zG2 : w7.cell? ⟨G, 2, none⟩ = some (.int .u64 0) := by rw [cell_of_row _ _ _ _ _ _ HBG.out]; rfl
    have fG2 := frozen_of_row _ _ 2 _ _ HBG.out
    obtain ⟨w8, hw8⟩ : ∃ W, W = w7.setCell ⟨G, 2, none⟩ (.int .u64 (t : Nat)) := ⟨_, rfl⟩
    have HSw8 : Hid (Apart [G] w7 w8) := by unfold Hid; rw [hw8]; exact (Apart.refl _ _).setCell (.inl (by simp)) _
    have HBG' : Hid (w8.heap[G]? = some (.cells #[.int .i64 (an : Nat), .int .i64 (bn : Nat), .int .u64 (t : Nat)] 85 (0, 0))) := by
      unfold Hid; rw [hw8]
      have := heap_setCell_same w7 G 2 _ 85 (.int .u64 (t : Nat)) HBG.out
      simpa using this
    replace HBG := HBG'
    clear HBG'
    replace HR := hid (HR.out.kept HSw8.out (by simp; exact HNG_R.out.symm) (by simp; exact HNG_P.out))
    replace HA := hid (HA.out.trans' HSw8.out (by intro y hy; simp at hy; rw [hy]; exact .inr HLG.out))
    replace HBX := hid (keepB HSw8.out HBX.out HNG_X.out.symm)
    replace HBD := hid (keepB HSw8.out HBD.out HNG_D.out.symm)
    go_upto_region 6 with fail
    rw [← hw8]
    clear hw8
    clear zG0 zG1 zG2 fG2
    have zG0 : w8.cell? ⟨G, 0, none⟩ = some (.int .i64 (an : Nat)) := by rw [cell_of_row _ _ _ _ _ _ HBG.out]; rfl
    have zG1 : w8.cell? ⟨G, 1, none⟩ = some (.int .i64 (bn : Nat)) := by rw [cell_of_row _ _ _ _ _ _ HBG.out]; rfl
    have zG2 : w8.cell? ⟨G, 2, none⟩ = some (.int .u64 (t : Nat)) := by rw [cell_of_row _ _ _ _ _ _ HBG.out]; rfl
    obtain ⟨Y, HXY⟩ : ∃ X, Hid (X = w8.heap.size) := ⟨_, rfl⟩
    obtain ⟨w9, hw9⟩ : ∃ W, W = w8.alloc (.cells #[.int .i64 (an : Nat), .int .i64 (bn : Nat), .int .u64 (t : Nat)] 85) := ⟨_, rfl⟩
    have HSw9 : Hid (Apart [] w8 w9) := by unfold Hid; rw [hw9]; exact (Apart.refl [] w8).alloc _
    have HBY : Hid (w9.heap[Y]? = some (.cells #[.int .i64 (an : Nat), .int .i64 (bn : Nat), .int .u64 (t : Nat)] 85 (0, 0))) := by unfold Hid; rw [HXY.out, hw9]; exact heap_alloc_new w8 _
    have HNY_R : Hid (Y ≠ R) := by unfold Hid; have := lt_of_heap HR.out.blk; rw [HXY.out]; omega
    have HNY_P : Hid (P ≠ Y) := by unfold Hid; have := HR.out.lt; rw [HXY.out]; omega
    have HNY_X : Hid (Y ≠ X) := by unfold Hid; have := lt_of_heap HBX.out; rw [HXY.out]; omega
    have HNY_D : Hid (Y ≠ D) := by unfold Hid; have := lt_of_heap HBD.out; rw [HXY.out]; omega
    have HNY_G : Hid (Y ≠ G) := by unfold Hid; have := lt_of_heap HBG.out; rw [HXY.out]; omega
    have HLY : Hid (w.heap.size ≤ Y) := by unfold Hid; rw [HXY.out]; exact HA.out.size
    replace HR := hid (HR.out.kept0 HSw9.out)
    replace HA := hid (HA.out.trans (HSw9.out.mono (by simp)))
    replace HBX := hid (keep0 HSw9.out HBX.out)
    replace HBD := hid (keep0 HSw9.out HBD.out)
    replace HBG := hid (keep0 HSw9.out HBG.out)
    have zX0 : w9.cell? ⟨X, 0, none⟩ = some (.int .i64 (dn : Nat)) := by rw [cell_of_row _ _ _ _ _ _ HBX.out]; rfl
    have zX1 : w9.cell? ⟨X, 1, none⟩ = some (.int .i64 (dc : Nat)) := by rw [cell_of_row _ _ _ _ _ _ HBX.out]; rfl
    rw [hw9] at zX0 zX1
    obtain ⟨v, Hv⟩ : ∃ v : Bool, Hid (v = ctxS ⟨an, bn, t⟩ dn dc) := ⟨_, rfl⟩
    have HIS := hid (isContext_ok (cap := 1) (rowL (x := ⟨(an : Nat), (bn : Nat), t⟩) HBY.out ht64) (dn : Nat) (dc : Nat) v (by rw [Hv.out]; exact ctx1 HNC.out.1 HNC.out.2))
    go_wp2_with fail
    rw [← hw9, ← HXY.out]
    clear hw9 HXY
    clear zG0 zG1 zG2 zX0 zX1
    refine (HIS.out).mono ?_
    rintro _ w10 ⟨rfl, aw10⟩
    have HSw10 := hid aw10
    replace HR := hid (HR.out.kept0 aw10)
    replace HA := hid (HA.out.trans (aw10.mono (by simp)))
    clear aw10
    replace HBX := hid (keep0 HSw10.out HBX.out)
    replace HBD := hid (keep0 HSw10.out HBD.out)
    replace HBG := hid (keep0 HSw10.out HBG.out)
    replace HBY := hid (keep0 HSw10.out HBY.out)
    dsimp only
    clear HIS
    rw [← Hv.out] at HE1
    obtain ⟨r0, r1, r2, r3, r4⟩ := HR.out.cells
    dsimp only at r1 r2
    cases v with
    | false =>
      have HE2 : Hid (spanR B lo dn dc s = (zS, ⟨bq, true⟩)) := by unfold Hid; rw [HE1.out, if_neg (by simp)]
      obtain ⟨w11, hw11⟩ : ∃ W, W = w10.setCell ⟨R, 2, none⟩ (.bool true) := ⟨_, rfl⟩
      have HSw11 : Hid (Apart [R] w10 w11) := by unfold Hid; rw [hw11]; exact (Apart.refl _ _).setCell (.inl (by simp)) _
      replace HR : Hid (PR w11 R P o c B ⟨bq, true⟩) := by unfold Hid; rw [hw11]; exact HR.out.stop
      replace HA := hid (HA.out.trans HSw11.out)
      replace HBX := hid (keepB HSw11.out HBX.out HNX_R.out)
      replace HBD := hid (keepB HSw11.out HBD.out HND_R.out)
      replace HBG := hid (keepB HSw11.out HBG.out HNG_R.out)
      replace HBY := hid (keepB HSw11.out HBY.out HNY_R.out)
      go_upto_region 8 with fail
      rw [← hw11]
      clear hw11 r0 r1 r2 r3 r4
      have zD0 : w11.cell? ⟨D, 0, none⟩ = some (.int .i64 0) := by rw [cell_of_row _ _ _ _ _ _ HBD.out]; rfl
      have fD0 := frozen_of_row _ _ 0 _ _ HBD.out
      have zD1 : w11.cell? ⟨D, 1, none⟩ = some (.int .i64 0) := by rw [cell_of_row _ _ _ _ _ _ HBD.out]; rfl
      have fD1 := frozen_of_row _ _ 1 _ _ HBD.out
      have zD2 : w11.cell? ⟨D, 2, none⟩ = some (.int .u64 0) := by rw [cell_of_row _ _ _ _ _ _ HBD.out]; rfl
      have fD2 := frozen_of_row _ _ 2 _ _ HBD.out
      obtain ⟨w12, hw12⟩ : ∃ W, W = ((w11.setCell ⟨D, 0, none⟩ (.int .i64 0)).setCell ⟨D, 1, none⟩ (.int .i64 0)).setCell ⟨D, 2, none⟩ (.int .u64 0) := ⟨_, rfl⟩
      have HSw12 : Hid (Apart [D] w11 w12) := by unfold Hid; rw [hw12]; exact (((Apart.refl _ _).setCell (.inl (by simp)) _).setCell (.inl (by simp)) _).setCell (.inl (by simp)) _
      have HBD' : Hid (w12.heap[D]? = some (.cells #[.int .i64 0, .int .i64 0, .int .u64 0] 85 (0, 0))) := by
        unfold Hid; rw [hw12]
        have h1 := heap_setCell_same w11 D 0 _ 85 (.int .i64 0) HBD.out
        have h2 := heap_setCell_same _ D 1 _ 85 (.int .i64 0) h1
        have h3 := heap_setCell_same _ D 2 _ 85 (.int .u64 0) h2
        simpa using h3
      replace HR := hid (HR.out.kept HSw12.out (by simp; exact HND_R.out.symm) (by simp; exact HND_P.out))
      replace HA := hid (HA.out.trans' HSw12.out (by intro y hy; simp at hy; rw [hy]; exact .inr HLD.out))
      go_wp2_with fail
      rw [← hw12]
      refine bodyPost_ret (results_cell_row rfl _ _ D 85 _ _ _ rfl HBD'.out Try.underlying85 rfl size52) rfl ?_
      rw [HE2.out]
      exact ⟨rfl, HR.out, HA.out⟩
    | true =>
      have HE2 : Hid (spanR B lo dn dc s = (⟨an, bn, t⟩, ⟨bq + 8, false⟩)) := by unfold Hid; rw [HE1.out, if_pos rfl]
      obtain ⟨qq, Hqq⟩ : ∃ qq, Hid (qq = bq + 8) := ⟨_, rfl⟩
      have hwq : IntKind.i64.wrap ((bq : Int) + 8) = (qq : Int) := by rw [IntKind.wrap_i64, Hqq.out]; have := HRR.out (by first | trivial | rfl); omega
      obtain ⟨w11, hw11⟩ : ∃ W, W = w10.setCell ⟨R, 1, none⟩ (.int .i64 (qq : Nat)) := ⟨_, rfl⟩
      have HSw11 : Hid (Apart [R] w10 w11) := by unfold Hid; rw [hw11]; exact (Apart.refl _ _).setCell (.inl (by simp)) _
      replace HR : Hid (PR w11 R P o c B ⟨bq + 8, false⟩) := by unfold Hid; rw [hw11, Hqq.out]; exact HR.out.move _ (HRR.out (by first | trivial | rfl))
      replace HA := hid (HA.out.trans HSw11.out)
      replace HBX := hid (keepB HSw11.out HBX.out HNX_R.out)
      replace HBD := hid (keepB HSw11.out HBD.out HND_R.out)
      replace HBG := hid (keepB HSw11.out HBG.out HNG_R.out)
      replace HBY := hid (keepB HSw11.out HBY.out HNY_R.out)
      go_upto_region 10 with fail
      rw [← hw11]
      clear hw11 r0 r1 r2 r3 r4 hwq
      have zG0 : w11.cell? ⟨G, 0, none⟩ = some (.int .i64 (an : Nat)) := by rw [cell_of_row _ _ _ _ _ _ HBG.out]; rfl
      have zG1 : w11.cell? ⟨G, 1, none⟩ = some (.int .i64 (bn : Nat)) := by rw [cell_of_row _ _ _ _ _ _ HBG.out]; rfl
      have zG2 : w11.cell? ⟨G, 2, none⟩ = some (.int .u64 (t : Nat)) := by rw [cell_of_row _ _ _ _ _ _ HBG.out]; rfl
      have zD0 : w11.cell? ⟨D, 0, none⟩ = some (.int .i64 0) := by rw [cell_of_row _ _ _ _ _ _ HBD.out]; rfl
      have fD0 := frozen_of_row _ _ 0 _ _ HBD.out
      have zD1 : w11.cell? ⟨D, 1, none⟩ = some (.int .i64 0) := by rw [cell_of_row _ _ _ _ _ _ HBD.out]; rfl
      have fD1 := frozen_of_row _ _ 1 _ _ HBD.out
      have zD2 : w11.cell? ⟨D, 2, none⟩ = some (.int .u64 0) := by rw [cell_of_row _ _ _ _ _ _ HBD.out]; rfl
      have fD2 := frozen_of_row _ _ 2 _ _ HBD.out
      obtain ⟨w12, hw12⟩ : ∃ W, W = ((w11.setCell ⟨D, 0, none⟩ (.int .i64 (an : Nat))).setCell ⟨D, 1, none⟩ (.int .i64 (bn : Nat))).setCell ⟨D, 2, none⟩ (.int .u64 (t : Nat)) := ⟨_, rfl⟩
      have HSw12 : Hid (Apart [D] w11 w12) := by unfold Hid; rw [hw12]; exact (((Apart.refl _ _).setCell (.inl (by simp)) _).setCell (.inl (by simp)) _).setCell (.inl (by simp)) _
      have HBD' : Hid (w12.heap[D]? = some (.cells #[.int .i64 (an : Nat), .int .i64 (bn : Nat), .int .u64 (t : Nat)] 85 (0, 0))) := by
        unfold Hid; rw [hw12]
        have h1 := heap_setCell_same w11 D 0 _ 85 (.int .i64 (an : Nat)) HBD.out
        have h2 := heap_setCell_same _ D 1 _ 85 (.int .i64 (bn : Nat)) h1
        have h3 := heap_setCell_same _ D 2 _ 85 (.int .u64 (t : Nat)) h2
        simpa using h3
      replace HR := hid (HR.out.kept HSw12.out (by simp; exact HND_R.out.symm) (by simp; exact HND_P.out))
      replace HA := hid (HA.out.trans' HSw12.out (by intro y hy; simp at hy; rw [hy]; exact .inr HLD.out))
      go_wp2_with fail
      rw [← hw12]
      refine bodyPost_ret (results_cell_row rfl _ _ D 85 _ _ _ rfl HBD'.out Try.underlying85 rfl size52) rfl ?_
      rw [HE2.out]
      exact ⟨rfl, HR.out, HA.out⟩
end Go.Proofs.Ytllhmidpphlbhaa.ds
