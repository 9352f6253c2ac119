import Derived.Test.YtpddokbjjhbfgaaGreatChecked
import Derived.WalkKit
import Derived.ProofKit
import Derived.Maps.OwnSet
import Derived.Maps.RangeWalk
import Derived.DeepKeys4
import Derived.MapViews
import Derived.StringKeys
import Derived.Lib.TrailingZeros
import Derived.OpenShut
import Derived.Deep.QuietTactic
import Derived.BigQuiet
import Derived.BigRegion
import Derived.Laws.CopyOwn
import Derived.Laws.Bits64b
import Derived.Laws.MathBits
import Derived.Laws.ShiftsVarLaws
import Derived.WalkSmall
import Derived.Laws.ResultCell
import Derived.Lib.BitFns
import Derived.Laws.StructEq
import Derived.Deep.RegionHeld
import Derived.ArgAppend
import Derived.Deep.RegionLaw
import Derived.Deep.DeepAppendRoom
import Derived.Sort.WalkA
import Derived.Laws.Strings
import Derived.Deep.CutBlock
import Derived.Great.BuildSlice
import Derived.Laws.AppendOwnNone
import Derived.Laws.BytesString
import Derived.Lib.Overlaps
import Derived.Lib.AppendZerosOnto
import Derived.Laws.NewBlocks
import Derived.Laws.Externs
import Derived.Laws.IdiomCopy
import Derived.RangeFuncNested
import Derived.RangeFuncBound
import Derived.RangeFuncCalls
import Derived.RangeFuncLeaves
import Derived.Shelf.Abstract
import Derived.Shelf.RegionOpen
import Derived.OwnWalkIn
import Derived.TacticsInMore
import Derived.LoopNIn
import Derived.LoopIn
import Derived.Deep.CutRange
import Derived.Deep.OwnRows
import Derived.Lib.Walk
import Derived.Lib.SliceRun
import GoSem.Claim
import GoSem.ClaimJoined
import GoSem.ClaimMapViews
import Derived.JoinedTies
import Derived.KernelRfl
import Derived.Lib.LaidTab
import Derived.JoinedCond
import Derived.ShutString
import Derived.ChangeOld
import Derived.Below
import Derived.Carry
import Derived.ChangeSlices
import Derived.Deep.Slices
import Derived.Deep.DeepHandedRow
import Derived.RowKit
import Derived.ChangeShapes
import Derived.SizedLaws
import Derived.ChangeMaps5
import Derived.OrdersHeld
import Derived.Lib.AppendStr
import Derived.Lib.ConvBytes
import Derived.Deep.RegionHeld3
import Derived.Deep.MidRow
import Derived.Laws.BitsAllLaws
import Derived.Sort.Grow
import Derived.Shelf.SlSortCmp.WholeK
import Derived.Shelf.Lay
import Derived.Ground.SlsfProg
import Derived.Sort.LotA
import Derived.Sort.MapsRangeIn
import Derived.RangeFuncSeq
import Derived.RangeFuncKeeps
import Derived.Maps.AppendAt
import Derived.OwnWalk
import Derived.Test.YtpddokbjjhbfgaaGreatRows
import Derived.Test.YtpddokbjjhbfgaaGreatV32
import Derived.Test.YtpddokbjjhbfgaaGreatV33
namespace Go.Proofs.YtpddokbjjhbfgaaGreat.ds
open Go.ChangeShapes Go.WideShapes Go.ChangeAt Go.RowKit Go.Sort
set_option linter.unusedVariables false
set_option linter.unusedSimpArgs false
def k1 : ByteArray := { data := #[107] }
theorem k1_key : keyR k1 = true ∧ k1.size ≤ maxLen := ⟨by decide +kernel, by unfold k1 maxLen; decide⟩
theorem cfg_nat {c : Cf} (h : CR c = true) : ∃ nn rr pp : Nat, c.n = nn ∧ c.r = rr ∧ c.p = pp ∧ 1 ≤ nn ∧ nn ≤ 8 ∧ 1 ≤ rr ∧ rr ≤ 16 ∧ 1 ≤ pp ∧ pp ≤ nn := by
  unfold CR at h
  simp only [Bool.and_eq_true, decide_eq_true_eq] at h
  exact ⟨c.n.toNat, c.r.toNat, c.p.toNat, by omega, by omega, by omega, by omega, by omega, by omega, by omega, by omega, by omega⟩
set_option maxHeartbeats 32000000 in
set_option maxRecDepth 100000 in
theorem turns_walk (w : World) (s0 s1 s2 s3 s4 first : Int) (i0 : In64 s0) (i1 : In64 s1) (i2 : In64 s2) (i3 : In64 s3) (i4 : In64 s4) (i5 : In64 first) (key : ByteArray) (hkey : key.size ≤ maxLen) {fp : Option Addr} {fn fc : Nat} {fs : List Int} (hfs : Ird w fp fn fs) (hfn : fn ≤ 9223372036854775807) :
    Calls Tryz.prog 4 #[.agg #[.int .i64 s0, .int .i64 s1, .int .i64 s2, .int .i64 s3, .int .i64 s4], .int .i64 first, .string key, .slice fp fn fc] w fun r w' => r = .returned (.bool true) ∧ Apart [] w w' := by
  obtain ⟨c, Hc⟩ : ∃ c, Hid (c = cfgC s0 s1 s2 s3 s4) := ⟨_, hid rfl⟩
  have HCR : Hid (CR c = true) := by rw [Hc.out]; exact cfgC_ok _ _ _ _ _
  obtain ⟨nn, rr, pp, hcn, hcr, hcp, b1, b2, b3, b4, b5, b6⟩ := cfg_nat HCR.out
  have HEQ := hid (And.intro hcn (And.intro hcr hcp))
  have HB : Hid (1 ≤ nn ∧ nn ≤ 8 ∧ 1 ≤ rr ∧ rr ≤ 16 ∧ 1 ≤ pp ∧ pp ≤ nn) := hid ⟨b1, b2, b3, b4, b5, b6⟩
  have hca : c.a = #[.int .i64 (nn : Nat), .int .i64 (pp : Nat), .int .i64 (rr : Nat), .int .i64 c.s, .int .i64 c.g, .int .i64 c.c, .int .i64 c.k, .int .i64 c.h, .int .i64 c.b] := by unfold Cf.a; rw [hcn, hcp, hcr]
  have HCF : Hid (∀ W, Calls Tryz.prog 10 #[.agg #[.int .i64 s0, .int .i64 s1, .int .i64 s2, .int .i64 s3, .int .i64 s4]] W fun e w' => e = .returned (.agg #[.int .i64 (nn : Nat), .int .i64 (pp : Nat), .int .i64 (rr : Nat), .int .i64 c.s, .int .i64 c.g, .int .i64 c.c, .int .i64 c.k, .int .i64 c.h, .int .i64 c.b]) ∧ Apart [] W w') := fun W => by
    have := config_ok W s0 s1 s2 s3 s4 i0 i1 i2 i3 i4
    rw [← Hc.out, hca] at this
    exact this
  obtain ⟨j, Hj⟩ : ∃ j : Nat, Hid (((j : Nat) : Int) = wiI first 0 ((nn : Int) - 1)) := ⟨(wiI first 0 ((nn : Int) - 1)).toNat, hid (by have := wiI_lo first 0 ((nn : Int) - 1) (by omega); omega)⟩
  have HJ : Hid (j < nn) := hid (by have := wiI_lo first 0 ((nn : Int) - 1) (by omega); have := Hj.out; omega)
  have HWI : Hid (∀ W, Calls Tryz.prog 19 #[.int .i64 first, .int .i64 0, .int .i64 ((nn : Int) - 1)] W fun e w' => e = .returned (.int .i64 (j : Nat)) ∧ w' = W) := fun W => by
    unfold In64 at i5
    rw [Hj.out]
    exact within_ok W first 0 ((nn : Int) - 1) (by omega) (by omega)
  have HNW : Hid (∀ W, Calls Tryz.prog 11 #[.agg #[.int .i64 (nn : Nat), .int .i64 (pp : Nat), .int .i64 (rr : Nat), .int .i64 c.s, .int .i64 c.g, .int .i64 c.c, .int .i64 c.k, .int .i64 c.h, .int .i64 c.b], .int .i64 (j : Nat)] W fun r w' => NewP W c nn rr pp j r w') := fun W => by
    have := new_ok W c HCR.out nn rr pp j hcn hcr hcp HJ.out
    rw [hca] at this
    exact this
  have HFS := hid hfs
  have HKS := hid hkey
  obtain ⟨A, HXA⟩ : ∃ X, Hid (X = w.heap.size) := ⟨_, hid rfl⟩
  obtain ⟨w1, hw1⟩ : ∃ V, V = w.alloc (.cells #[.int .i64 s0, .int .i64 s1, .int .i64 s2, .int .i64 s3, .int .i64 s4] 23) := ⟨_, rfl⟩
  have a1 : Apart [] w w1 := by rw [hw1]; exact (Apart.refl [] w).alloc _
  have hA1 : w1.heap[A]? = some (.cells #[.int .i64 s0, .int .i64 s1, .int .i64 s2, .int .i64 s3, .int .i64 s4] 23 (0, 0)) := by rw [hw1, HXA.out]; exact heap_alloc_new w _
  have HAR := hid hA1
  have HA1 := hid a1
  have hwsub : IntKind.i64.wrap ((nn : Int) - 1) = (nn : Int) - 1 := by rw [IntKind.wrap_i64]; omega
  have HWS := hid hwsub
  clear a1 hA1 hfs hkey i0 i1 i2 i3 i4 i5 hcn hcr hcp b1 b2 b3 b4 b5 b6 hca hwsub Hj Hc
  go_enter Tryz.func4, Tryz.ntmps4
  go_upto_region 1 with fail
  rw [← hw1, ← HXA.out]
  clear hw1 HXA
  go_wp2_with fail
  refine (alive_ok w1).mono ?_
  rintro _ w2 ⟨rfl, a2⟩
  have HR2 := hid (keep0 a2 HAR.out)
  have HA2 := hid (HA1.out.trans a2)
  clear a2 HAR HA1
  have y0 := crow HR2.out 0 (.int .i64 s0) rfl
  have y1 := crow HR2.out 1 (.int .i64 s1) rfl
  have y2 := crow HR2.out 2 (.int .i64 s2) rfl
  have y3 := crow HR2.out 3 (.int .i64 s3) rfl
  have y4 := crow HR2.out 4 (.int .i64 s4) rfl
  try dsimp only
  go_wp2_with fail
  refine (HCF.out w2).mono ?_
  rintro _ w3 ⟨rfl, a3⟩
  clear y0 y1 y2 y3 y4 HCF HR2
  obtain ⟨C, HXC⟩ : ∃ X, Hid (X = w3.heap.size) := ⟨_, hid rfl⟩
  obtain ⟨w4, hw4⟩ : ∃ V, V = w3.alloc (.cells #[.int .i64 (nn : Nat), .int .i64 (pp : Nat), .int .i64 (rr : Nat), .int .i64 c.s, .int .i64 c.g, .int .i64 c.c, .int .i64 c.k, .int .i64 c.h, .int .i64 c.b] 27) := ⟨_, rfl⟩
  have a4 : Apart [] w3 w4 := by rw [hw4]; exact (Apart.refl [] w3).alloc _
  have hC4 : w4.heap[C]? = some (.cells #[.int .i64 (nn : Nat), .int .i64 (pp : Nat), .int .i64 (rr : Nat), .int .i64 c.s, .int .i64 c.g, .int .i64 c.c, .int .i64 c.k, .int .i64 c.h, .int .i64 c.b] 27 (0, 0)) := by rw [hw4, HXC.out]; exact heap_alloc_new w3 _
  have HA4 := hid (HA2.out.trans (a3.trans a4))
  have HC4 := hid hC4
  clear a3 a4 hC4 HA2
  try dsimp only
  go_upto_region 3 with fail
  rw [← hw4]
  try rw [← HXC.out]
  clear hw4 HXC
  have g0 := crow HC4.out 0 (.int .i64 (nn : Nat)) rfl
  have g1 := crow HC4.out 1 (.int .i64 (pp : Nat)) rfl
  have g2 := crow HC4.out 2 (.int .i64 (rr : Nat)) rfl
  have g3 := crow HC4.out 3 (.int .i64 c.s) rfl
  have g4 := crow HC4.out 4 (.int .i64 c.g) rfl
  have g5 := crow HC4.out 5 (.int .i64 c.c) rfl
  have g6 := crow HC4.out 6 (.int .i64 c.k) rfl
  have g7 := crow HC4.out 7 (.int .i64 c.h) rfl
  have g8 := crow HC4.out 8 (.int .i64 c.b) rfl
  have hwsub := HWS.out
  go_wp2_with fail
  clear hwsub
  refine (HWI.out w4).mono ?_
  rintro _ xx ⟨rfl, hxx⟩
  rw [hxx]
  clear hxx xx HWI HWS
  try dsimp only
  go_wp2_with fail
  refine (HNW.out w4).mono ?_
  intro r5 w5 hnp
  obtain ⟨G, rfl, hS5, a5, hnew⟩ := hnp
  have HC5 := hid (keep0 a5 HC4.out)
  have HS5 := hid hS5
  have HA5 := hid (HA4.out.trans a5)
  have HGN : Hid (C < G.S ∧ C < G.L ∧ w.heap.size ≤ G.S ∧ w.heap.size ≤ G.L) := by
    have h1 := lt_of_heap HC4.out
    have h2 := hnew G.S (.inl rfl)
    have h3 := hnew G.L (.inr (.inr (.inl rfl)))
    have h4 := HA4.out.size
    exact hid ⟨by omega, by omega, by omega, by omega⟩
  clear hS5 a5 hnew HNW HA4 HC4 g0 g1 g2 g3 g4 g5 g6 g7 g8
  have g0 := crow HC5.out 0 (.int .i64 (nn : Nat)) rfl
  have g2 := crow HC5.out 2 (.int .i64 (rr : Nat)) rfl
  try dsimp only
  go_wp2_with fail
  refine (rg.new_ok nn rr HB.out.1 HB.out.2.1 HB.out.2.2.1 HB.out.2.2.2.1 w5).mono ?_
  rintro _ w6 ⟨⟨rfl, hrg⟩, a6⟩
  obtain ⟨R, HXR⟩ : ∃ X, Hid (X = w5.heap.size) := ⟨_, hid rfl⟩
  rw [← HXR.out] at hrg ⊢
  have HRG := hid hrg
  have HC6 := hid (keep0 (ra a6) HC5.out)
  have HS6 := hid (HS5.out.kept0 (ra a6))
  have HA6 := hid (HA5.out.trans (ra a6))
  clear hrg a6 HXR HS5 HA5 HC5 g0 g2
  try dsimp only
  go_upto_region 8 with fail
  obtain ⟨bk, Hbk⟩ : ∃ b : Bool, Hid (b = !keyR key) := ⟨_, hid rfl⟩
  go_cut [70] from 23 to 69 (fun s wx => s = .bool bk ∧ wx = w6)
  case first =>
    by_cases h1 : key.size = 0
    · have h1i : ((key.size : Nat) : Int) = 0 := by omega
      have HBT : Hid (bk = true) := hid (by rw [Hbk.out]; unfold keyR; rw [decide_eq_false (by omega)]; rfl)
      go_wp2_with fail
      go_meet
      exact ⟨by rw [HBT.out], rfl⟩
    · have h1i : ¬ ((key.size : Nat) : Int) = 0 := by omega
      by_cases h2 : key.size > 16
      · have h2i : ((key.size : Nat) : Int) > 16 := by omega
        have HBT : Hid (bk = true) := hid (by rw [Hbk.out]; unfold keyR; rw [decide_eq_false (by omega)]; rfl)
        go_wp2_with fail
        go_meet
        exact ⟨by rw [HBT.out], rfl⟩
      · have h2i : ¬ ((key.size : Nat) : Int) > 16 := by omega
        have HBT : Hid (bk = false) := hid (by rw [Hbk.out]; unfold keyR; rw [decide_eq_true (by omega)]; rfl)
        go_wp2_with fail
        go_meet
        exact ⟨by rw [HBT.out]; first | rfl | (congr 1; exact beq_eq_false_iff_ne.2 (by intro e; omega)) | (congr 1; exact decide_eq_false (by omega)), rfl⟩
  obtain ⟨rfl, hwc⟩ := hcut
  rw [hwc]
  clear hwc wc
  go_upto_if 70 with fail
  go_cut [2] from 23 to 70 (fun s2 wx => ∃ k : ByteArray, s2 = .string k ∧ wx = w6 ∧ Hid (keyR k = true ∧ k.size ≤ maxLen))
  case first =>
    cases bk with
    | true =>
      go_wp2_with fail
      go_meet
      exact ⟨k1, rfl, rfl, hid k1_key⟩
    | false =>
      have hky : keyR key = true := by have := Hbk.out; cases h : keyR key; rw [h] at this; cases this; rfl
      have HKY := hid hky
      clear hky
      go_wp2_with fail
      go_meet
      exact ⟨key, rfl, rfl, hid ⟨HKY.out, HKS.out⟩⟩
  obtain ⟨k, rfl, hwc, HK⟩ := hcut
  rw [hwc]
  clear hwc wc Hbk
  have HRN : Hid (∀ W, Apart [] w6 W → Calls Tryz.prog 22 #[.pointer (some ⟨R, 0, none⟩), .string k] W fun r w' => r = .returned (.int .i64 (rg.hashN (rg.strN k) % rr : Nat)) ∧ Apart [] W w') := fun W a => (rg.range_ok (HRG.out.kept0 (ar a)) k (by have := HK.out.2; unfold maxLen at this; omega)).mono (fun r w' h => ⟨h.1, ra h.2⟩)
  have HPF : Hid (∀ W, Apart [] w6 W → Calls Tryz.prog 21 #[.pointer (some ⟨R, 0, none⟩), .int .i64 (rg.hashN (rg.strN k) % rr : Nat), .int .i64 (pp : Nat)] W fun r w' => ∃ P o cap, r = .returned (.tuple #[.slice (some ⟨P, o, none⟩) pp cap, .int .i64 0]) ∧ Apart [] W w' ∧ W.heap.size ≤ P ∧ Ird w' (some ⟨P, o, none⟩) pp (prefK nn rr pp k)) := fun W a => (rg.pref_ok (HRG.out.kept0 (ar a)) (rg.hashN (rg.strN k) % rr) (Nat.mod_lt _ HB.out.2.2.1) pp HB.out.2.2.2.2.1 HB.out.2.2.2.2.2).mono (fun r w' h => by
    obtain ⟨P, o, cap, e, h1, h2, h3⟩ := h.ex
    exact ⟨P, o, cap, e, ra h2, h1, Ob_ird h3⟩)
  obtain ⟨rng, Hrng⟩ : ∃ x : Int, Hid (x = ((rg.hashN (rg.strN k) % rr : Nat) : Int)) := ⟨_, hid rfl⟩
  rw [← Hrng.out] at HRN HPF
  have HCE : Hid (∀ W, Apart [] w6 W → W.cell? ⟨C, 1, none⟩ = some (.int .i64 (pp : Nat))) := fun W a => crow (keep0 a HC6.out) 1 _ rfl
  clear HRG Hrng
  go_upto_region 10 with fail
  have hAd : Apart [] w6 w6.drew := (Apart.refl [] w6).drew
  refine wp_region_held_drew (S := fun W => Apart [] w6 W) (by kernel_rfl) hAd (fun hHeld => ?_)
  generalize w6.drew = wd at *
  clear hAd
  refine tk 0 72 (.pointer (some ⟨R, 0, none⟩)) rfl ?_ ?_
  · intro W hSW; go_simp
  simp only [Act.put, List.setIfInBounds_toArray, List.set_cons_zero, List.set_cons_succ]
  refine tk 1 73 (.pointer (some ⟨R, 0, none⟩)) rfl ?_ ?_
  · intro W hSW; go_simp
  simp only [Act.put, List.setIfInBounds_toArray, List.set_cons_zero, List.set_cons_succ]
  refine tk 2 74 (.string k) rfl ?_ ?_
  · intro W hSW; go_simp
  simp only [Act.put, List.setIfInBounds_toArray, List.set_cons_zero, List.set_cons_succ]
  refine tk 4 76 (.pointer (some ⟨C, 1, none⟩)) rfl ?_ ?_
  · intro W hSW; go_simp
  simp only [Act.put, List.setIfInBounds_toArray, List.set_cons_zero, List.set_cons_succ]
  refine tk 5 77 (.int .i64 (pp : Nat)) rfl ?_ ?_
  · intro W hSW; have z1 := HCE.out W hSW; go_simp
  simp only [Act.put, List.setIfInBounds_toArray, List.set_cons_zero, List.set_cons_succ]
  refine wpAnyH_ready (rs := [3]) (by kernel_rfl) (by simp) ?_
  refine AllReadyH.cons rfl (fun KK hKK => ?_) AllReadyH.nil
  go_simp
  refine (HRN.out wd hHeld).mono ?_
  rintro _ x0 ⟨rfl, b0⟩
  have hHx := hHeld.trans b0
  try dsimp only
  refine hKK.out _ _ hHx (fun hHeld => ?_)
  clear hKK KK
  try simp only [Act.put, List.setIfInBounds_toArray, List.set_cons_zero, List.set_cons_succ]
  clear b0
  refine wpAnyH_ready (rs := [6]) (by kernel_rfl) (by simp) ?_
  refine AllReadyH.cons rfl (fun KK hKK => ?_) AllReadyH.nil
  go_simp
  refine (HPF.out x0 hHeld).mono ?_
  rintro _ x1 ⟨P, o, cap, rfl, b1, hPn, hird⟩
  have hx0 := hHx
  clear hHx
  have hHx := hHeld.trans b1
  try dsimp only
  refine hKK.out _ _ hHx (fun hHeld => ?_)
  clear hKK KK
  try simp only [Act.put, List.setIfInBounds_toArray, List.set_cons_zero, List.set_cons_succ]
  clear hHx b1
  refine tk 7 71 (.tuple #[.slice (some ⟨P, o, none⟩) pp cap, .int .i64 0]) rfl ?_ ?_
  · intro W hSW; go_simp
  simp only [Act.put, List.setIfInBounds_toArray, List.set_cons_zero, List.set_cons_succ]
  refine tk 8 79 (.slice (some ⟨P, o, none⟩) pp cap) rfl ?_ ?_
  · intro W hSW; go_simp
  simp only [Act.put, List.setIfInBounds_toArray, List.set_cons_zero, List.set_cons_succ]
  refine tk 9 80 (.int .i64 0) rfl ?_ ?_
  · intro W hSW; go_simp
  simp only [Act.put, List.setIfInBounds_toArray, List.set_cons_zero, List.set_cons_succ]
  refine tk 10 15 (.slice (some ⟨P, o, none⟩) pp cap) rfl ?_ ?_
  · intro W hSW; go_simp
  simp only [Act.put, List.setIfInBounds_toArray, List.set_cons_zero, List.set_cons_succ]
  refine tk 11 12 (.int .i64 0) rfl ?_ ?_
  · intro W hSW; go_simp
  simp only [Act.put, List.setIfInBounds_toArray, List.set_cons_zero, List.set_cons_succ]
  refine wpAnyH_done (by kernel_rfl) ?_ _
  have HA7 := hid hHeld
  have HPR := hid hird
  have HPN : Hid (w6.heap.size ≤ P) := hid (Nat.le_trans hx0.size hPn)
  clear hHeld hird hPn HRN HPF HCE hx0
  have HC7 := hid (keep0 HA7.out HC6.out)
  have HS7 := hid (HS6.out.kept0 HA7.out)
  have HT7 := hid (HA6.out.trans HA7.out)
  have HGL : Hid (∀ y, G.has y → y < w6.heap.size) := hid (fun y hy => HS6.out.has_lt hy)
  clear HS6 HC6 HA6
  go_wp2_with fail
  refine (next_ok HS7.out HB.out.2.1 k HK.out.2).mono ?_
  intro r8 w8 hnx
  rw [HK.out.1] at hnx
  obtain ⟨-, hn2, a8⟩ := hnx
  obtain ⟨v1, rfl, hv1⟩ := hn2 rfl
  have HV1 : Hid ((j : Int) ∈ prefK nn rr pp k → v1 = (j : Int)) := hid (fun hm => by
    rw [like_first HJ.out (by simpa using hm)] at hv1
    simpa using hv1.symm)
  have HC8 := hid (keep0 a8 HC7.out)
  have HS8 := hid (HS7.out.kept0 a8)
  have HT8 := hid (HT7.out.trans a8)
  have HP8 := hid (HPR.out.kept0 a8)
  have HZ8 : Hid (w6.heap.size ≤ w8.heap.size) := hid (Nat.le_trans HA7.out.size a8.size)
  clear hn2 a8 hv1 HS7 HC7 HT7 HPR HA7
  have HMB : Hid (∀ W, Apart [] w8 W → Calls Tryz.prog 24 #[.slice (some ⟨P, o, none⟩) pp cap, .int .i64 (j : Nat)] W fun r w' => r = .returned (.bool (decide ((j : Int) ∈ prefK nn rr pp k))) ∧ w' = W) := fun W a => member_ok (HP8.out.kept0 a) (by have := HB.out; omega) _
  obtain ⟨bm, Hbm⟩ : ∃ b : Bool, Hid (b = decide ((j : Int) ∈ prefK nn rr pp k)) := ⟨_, hid rfl⟩
  rw [← Hbm.out] at HMB
  try dsimp only
  go_upto_region 12 with fail
  go_cut [102] from 71 to 101 (fun s wx => s = .bool false ∧ wx = w8)
  case first =>
    go_wp2_with fail
    refine (HMB.out w8 (Apart.refl _ _)).mono ?_
    rintro _ xx ⟨rfl, hxx⟩
    rw [hxx]
    clear hxx xx
    cases bm with
    | true =>
      have HV : Hid (v1 = ((j : Nat) : Int)) := HV1.out (of_decide_eq_true Hbm.out.symm)
      try dsimp only
      go_wp2_with fail
      go_meet
      exact ⟨by have hv := HV.out; simp [hv], rfl⟩
    | false =>
      try dsimp only
      go_wp2_with fail
      go_meet
      exact ⟨rfl, rfl⟩
  obtain ⟨rfl, hwc⟩ := hcut
  rw [hwc]
  clear hwc wc HMB Hbm HV1
  have HOT : Hid (∀ W, Apart [G.S, G.L] w8 W → W.cell? ⟨C, 1, none⟩ = some (.int .i64 (pp : Nat)) ∧ Ird W fp fn fs ∧ Ird W (some ⟨P, o, none⟩) pp (prefK nn rr pp k)) := fun W a => by
    have h1 := HGN.out
    have h2 := HGL.out G.S (.inl rfl)
    have h3 := HGL.out G.L (.inr (.inr (.inl rfl)))
    have h4 := HPN.out
    refine ⟨(a.cell (p := ⟨C, 1, none⟩) (lt_of_heap HC8.out) (by simp; omega)).trans (crow HC8.out 1 _ rfl), ?_, ?_⟩
    · refine HFS.out.keptX ((HT8.out.mono (by simp)).trans a) (fun P0 o0 _ hP0 hm => ?_)
      simp at hm
      omega
    · refine HP8.out.keptX a (fun P0 o0 e _ hm => ?_)
      simp at hm e
      omega
  have HTN0 := hid (Tn.mk HS8.out (Apart.refl [G.S, G.L] w8))
  have HGB : Hid (∀ y, G.has y → y < w8.heap.size) := hid (fun y hy => Nat.lt_of_lt_of_le (HGL.out y hy) HZ8.out)
  have HFA : Hid (∀ W, Apart [G.S, G.L] w8 W → Apart [] w W) := fun W a => HT8.out.trans' a (fun y hy => .inr (by have := HGN.out; simp at hy; omega))
  clear HS8 HC8 HP8 HT8 HZ8 HGL HGN HPN HFS HJ HKS HCR
  go_wp2_with fail
  go_loopw [17] (fun a wt => ∃ (i : Nat) (lk : List Int), a = .int .i64 (i : Nat) ∧ i ≤ 20 ∧ Hid (Tn w8 wt G c nn rr pp lk)) (fun a _ => 20 - (intOf a).toNat)
  case atStart => exact ⟨0, _, rfl, Nat.zero_le _, HTN0⟩
  case round =>
  obtain ⟨i, lk, rfl, hile, HI⟩ := hrel
  clear HTN0
  obtain ⟨bb, Hbb⟩ : ∃ b : Bool, Hid (b = (decide (i < fn) && decide (i < 20))) := ⟨_, hid rfl⟩
  go_upto_region 15 with fail
  go_cut [110] from 103 to 109 (fun s wx => s = .bool bb ∧ wx = wr)
  case first =>
    by_cases h1 : i < fn
    · have h1i : ((i : Nat) : Int) < ((fn : Nat) : Int) := by omega
      by_cases h2 : i < 20
      · have h2i : ((i : Nat) : Int) < 20 := by omega
        have HBT : Hid (bb = true) := hid (by rw [Hbb.out]; simp; omega)
        go_wp2_with fail
        go_meet
        exact ⟨by rw [HBT.out], rfl⟩
      · have h2i : ¬ ((i : Nat) : Int) < 20 := by omega
        have HBT : Hid (bb = false) := hid (by rw [Hbb.out]; simp; omega)
        go_wp2_with fail
        go_meet
        exact ⟨by rw [HBT.out], rfl⟩
    · have h1i : ¬ ((i : Nat) : Int) < ((fn : Nat) : Int) := by omega
      have HBT : Hid (bb = false) := hid (by rw [Hbb.out]; simp; omega)
      go_wp2_with fail
      go_meet
      exact ⟨by rw [HBT.out], rfl⟩
  obtain ⟨rfl, hwc⟩ := hcut
  rw [hwc]
  clear hwc wc
  cases bb with
  | true =>
    have hi2 : i < fn ∧ i < 20 := by have := Hbb.out; simp at this; exact this
    obtain ⟨-, hif, -⟩ := HOT.out wr HI.out.ap
    obtain ⟨P0, o0, rfl, hP0, hc0⟩ := hif.rd (by omega)
    have hil : i < fs.length := by rw [hif.len]; omega
    have z := hc0 i hil
    obtain ⟨x, Hx⟩ : ∃ x : Int, Hid (x = fs[i]'hil) := ⟨_, hid rfl⟩
    rw [← Hx.out] at z
    have hii : ((i : Nat) : Int) < ((fn : Nat) : Int) := by omega
    clear hif hc0 Hbb hP0
    go_wp2_with fail
    refine (failed_ok HI.out.ss HB.out.2.1 x).mono ?_
    rintro _ w9 ⟨rfl, hs9, a9⟩
    have HT9 := hid (HI.out.fail hs9 a9)
    clear hs9 a9 z Hx
    try dsimp only
    go_wp2_with fail
    go_roundw
    case rel => exact ⟨i + 1, _, by go_num, by omega, HT9⟩
    case measure => simp [intOf]; omega
  | false =>
    clear Hbb
    generalize wr = w10 at *
    obtain ⟨F, HF⟩ : ∃ F, Hid (F = lk.filter (fun y => decide (y ∈ prefK nn rr pp k))) := ⟨_, hid rfl⟩
    have HFF : Hid (F.length = pp ∧ F.Nodup ∧ ∀ v ∈ F, v ∈ prefK nn rr pp k) := by rw [HF.out]; exact hid (told_len HI.out.ss HB.out.2.1 HB.out.2.2.1 HB.out.2.2.2.1 k)
    obtain ⟨lo, Hlo⟩ : ∃ lo, Hid (lo = w10.heap.size) := ⟨_, hid rfl⟩
    have HLO : Hid (w8.heap.size ≤ lo ∧ (∀ y, G.has y → y < lo) ∧ G.S < lo ∧ G.L < lo) := by
      have h1 : w8.heap.size ≤ lo := by rw [Hlo.out]; exact HI.out.ap.size
      exact hid ⟨h1, fun y hy => Nat.lt_of_lt_of_le (HGB.out y hy) h1, Nat.lt_of_lt_of_le (HGB.out _ (.inl rfl)) h1, Nat.lt_of_lt_of_le (HGB.out _ (.inr (.inr (.inl rfl)))) h1⟩
    have HST : Hid (Tn w8 w10 G c nn rr pp lk ∧ lk.filter (fun y => decide (y ∈ prefK nn rr pp k)) = F ∧ Mt lo w10 slz [] ∧ lo ≤ w10.heap.size) := hid ⟨HI.out, HF.out.symm, Mt.nil _ _, by rw [Hlo.out]; exact Nat.le_refl _⟩
    clear HI HF Hlo HGB
    go_wp2_with fail
    go_loopw [18, 19] (fun m a wt => ∃ (q : Nat) (s : Sl) (lk : List Int), a = .int .i64 (q : Nat) ∧ q ≤ 2 ∧ m = .slice s.p s.n s.c ∧ Hid (Tn w8 wt G c nn rr pp lk ∧ lk.filter (fun y => decide (y ∈ prefK nn rr pp k)) = F ∧ Mt lo wt s (if q = 0 then [] else F) ∧ lo ≤ wt.heap.size)) (fun _ a _ => 2 - (intOf a).toNat)
    case atStart => exact ⟨0, slz, lk, rfl, by omega, rfl, HST⟩
    case round =>
    obtain ⟨q, s, lk2, rfl, hq, rfl, HO⟩ := hrel
    clear HST
    by_cases hq2 : q < 2
    · have hqi : ((q : Nat) : Int) < 2 := by omega
      have HIN : Hid (Tn w8 wr G c nn rr pp lk2 ∧ lk2.filter (fun y => decide (y ∈ prefK nn rr pp k)) = F.drop 0 ++ F.take 0 ∧ Mt lo wr s (if q = 0 then F.take 0 else F) ∧ lo ≤ wr.heap.size) := hid ⟨HO.out.1, by rw [HO.out.2.1]; simp, by have := HO.out.2.2.1; by_cases e : q = 0 <;> simp [e] at this ⊢ <;> exact this, HO.out.2.2.2⟩
      clear HO
      go_wp2_with fail
      go_loopw [18, 20] (fun m a wt => ∃ (i : Nat) (s : Sl) (lk : List Int), a = .int .i64 (i : Nat) ∧ i ≤ pp ∧ m = .slice s.p s.n s.c ∧ Hid (Tn w8 wt G c nn rr pp lk ∧ lk.filter (fun y => decide (y ∈ prefK nn rr pp k)) = F.drop i ++ F.take i ∧ Mt lo wt s (if q = 0 then F.take i else F) ∧ lo ≤ wt.heap.size)) (fun _ a _ => pp - (intOf a).toNat)
      case atStart => exact ⟨0, s, lk2, rfl, Nat.zero_le _, rfl, HIN⟩
      case round =>
      obtain ⟨i, ⟨sp, sn, sc⟩, lk3, rfl, hi, rfl, HN⟩ := hrel
      clear HIN
      generalize wr = w11 at *
      obtain ⟨zc, -, hpr⟩ := HOT.out _ HN.out.1.ap
      have HPR := hid hpr
      have hp8 : pp ≤ 8 := by have := HB.out; omega
      by_cases hip : i < pp
      · have hipi : ((i : Nat) : Int) < ((pp : Nat) : Int) := by omega
        have HQ := hid (next_ok HN.out.1.ss HB.out.2.1 k HK.out.2)
        clear hpr
        try dsimp only
        go_wp2_with fail
        refine HQ.out.mono ?_
        intro r9 w9 hnx
        rw [HK.out.1] at hnx
        obtain ⟨-, hn2, a9⟩ := hnx
        obtain ⟨v, rfl, hv⟩ := hn2 rfl
        have hiF : i < F.length := by rw [HFF.out.1]; exact hip
        obtain ⟨hvF, hrot⟩ := turn_next HN.out.2.1 hiF hv
        have HROT := hid hrot
        have HVF : Hid (v = F[i]'hiF) := hvF
        have HVP : Hid (v ∈ prefK nn rr pp k) := by rw [hvF]; exact HFF.out.2.2 _ (List.getElem_mem _)
        have HVT : Hid (v ∉ F.take i) := hid (fun hm => by
          rw [hvF] at hm
          obtain ⟨y, hy, ey⟩ := List.mem_iff_getElem.1 hm
          rw [List.getElem_take] at ey
          have hyi : y < i := by rw [List.length_take] at hy; omega
          have := (List.getElem_inj HFF.out.2.1).1 ey
          omega)
        have HN9 : Hid (Tn w8 w9 G c nn rr pp lk3 ∧ Mt lo w9 ⟨sp, sn, sc⟩ (if q = 0 then F.take i else F) ∧ lo ≤ w9.heap.size) := hid ⟨HN.out.1.pure a9, HN.out.2.2.1.kept a9 (by simp), Nat.le_trans HN.out.2.2.2 a9.size⟩
        have HM1 : Hid (Calls Tryz.prog 24 #[.slice (some ⟨P, o, none⟩) pp cap, .int .i64 v] w9 fun r w' => r = .returned (.bool true) ∧ w' = w9) := by
          have := member_ok (cap := cap) (HPR.out.kept0 a9) (by have := HB.out; omega) v
          rw [decide_eq_true HVP.out] at this
          exact this
        have HM2 : Hid (q = 0 → Calls Tryz.prog 24 #[.slice sp sn sc, .int .i64 v] w9 fun r w' => r = .returned (.bool false) ∧ w' = w9) := hid (fun e => by
          have hm := HN9.out.2.1
          rw [if_pos e] at hm
          have hl := hm.len
          have := member_ok (cap := sc) hm.ird (by have := HB.out; have h3 : sn = (F.take i).length := hl; rw [List.length_take] at h3; show sn ≤ 1000000; omega) v
          rw [decide_eq_false HVT.out] at this
          exact this)
        have HMI : Hid (q ≠ 0 → sn = pp ∧ Ird w9 sp sn F) := hid (fun e => by
          have hm := HN9.out.2.1
          rw [if_neg e] at hm
          exact ⟨by have := hm.len; rw [HFF.out.1] at this; exact this, hm.ird⟩)
        clear hn2 a9 hv hvF hrot HQ zc HN HPR HVP HVT
        try dsimp only
        go_upto_region 26 with fail
        go_cut [163] from 135 to 162 (fun s wx => s = .bool false ∧ wx = w9)
        case first =>
          go_wp2_with fail
          refine HM1.out.mono ?_
          rintro _ xx ⟨rfl, hxx⟩
          rw [hxx]
          clear hxx xx
          by_cases hq0 : q = 0
          · have hq0i : ((q : Nat) : Int) = 0 := by omega
            have HQ2 := hid (HM2.out hq0)
            try dsimp only
            go_wp2_with fail
            refine HQ2.out.mono ?_
            rintro _ xx ⟨rfl, hxx⟩
            rw [hxx]
            clear hxx xx
            try dsimp only
            go_wp2_with fail
            go_meet
            exact ⟨by first | rfl | simp, rfl⟩
          · have hq0i : ¬ ((q : Nat) : Int) = 0 := by omega
            have hq1i : ((q : Nat) : Int) = 1 := by omega
            obtain ⟨hsn, hird⟩ := HMI.out hq0
            obtain ⟨P2, o2, rfl, -, hc2⟩ := hird.rd (by omega)
            have z := hc2 i hiF
            rw [← HVF.out] at z
            have hsni : ((i : Nat) : Int) < ((sn : Nat) : Int) := by omega
            clear hird hc2 hsn
            try dsimp only
            go_wp2_with fail
            go_meet
            exact ⟨by first | rfl | simp, rfl⟩
        obtain ⟨rfl, hwc⟩ := hcut
        rw [hwc]
        clear hwc wc HM1 HM2 HMI
        go_upto_if 165 with fail
        go_cut [18] from 164 to 169 (fun m wx => ∃ s' : Sl, m = .slice s'.p s'.n s'.c ∧ Hid (Tn w8 wx G c nn rr pp lk3 ∧ Mt lo wx s' (if q = 0 then F.take (i + 1) else F) ∧ lo ≤ wx.heap.size))
        case first =>
          by_cases hq0 : q = 0
          · have hq0i : ((q : Nat) : Int) = 0 := by omega
            have hm := HN9.out.2.1
            rw [if_pos hq0] at hm
            obtain ⟨s', W', hrun, hm', X, hX, hXl⟩ := hm.app HN9.out.2.2 v (by rw [List.length_take]; have := HB.out; omega)
            have HE : Hid (Tn w8 W' G c nn rr pp lk3 ∧ Mt lo W' s' (if q = 0 then F.take (i + 1) else F) ∧ lo ≤ W'.heap.size) := hid ⟨HN9.out.1.far hX hXl HLO.out.1 HLO.out.2.1, by rw [if_pos hq0, List.take_succ_eq_append_getElem hiF, ← HVF.out]; exact hm', Nat.le_trans HN9.out.2.2 hX.size⟩
            clear hm hm' hX hXl
            dsimp only at hrun
            have HRUN := hid hrun
            clear hrun
            try dsimp only
            rw [show (((q : Nat) : Int) == 0) = true from by rw [hq0i]; rfl]
            clear hq0 hq0i
            go_wp2_with (at_builtin; refine wpList_app2 rfl (.tmp 166) (.tmp 168) 54 54 rfl _ _ rfl rfl _ _ HRUN.out ?_)
            go_meet
            exact ⟨s', rfl, HE⟩
          · have hq0i : ¬ ((q : Nat) : Int) = 0 := by omega
            have HE : Hid (Tn w8 w9 G c nn rr pp lk3 ∧ Mt lo w9 ⟨sp, sn, sc⟩ (if q = 0 then F.take (i + 1) else F) ∧ lo ≤ w9.heap.size) := hid ⟨HN9.out.1, by have := HN9.out.2.1; rw [if_neg hq0] at this ⊢; exact this, HN9.out.2.2⟩
            try dsimp only
            try rw [show (((q : Nat) : Int) == 0) = false from beq_eq_false_iff_ne.2 hq0i]
            go_wp2_with fail
            go_meet
            exact ⟨⟨sp, sn, sc⟩, rfl, HE⟩
        obtain ⟨s', rfl, HE⟩ := hcut
        generalize wc = w12 at *
        clear HN9 HVF
        go_wp2_with fail
        refine (failed_ok HE.out.1.ss HB.out.2.1 v).mono ?_
        rintro _ w13 ⟨rfl, hs13, a13⟩
        have HE2 : Hid (Tn w8 w13 G c nn rr pp (failL lk3 v) ∧ (failL lk3 v).filter (fun y => decide (y ∈ prefK nn rr pp k)) = F.drop (i + 1) ++ F.take (i + 1) ∧ Mt lo w13 s' (if q = 0 then F.take (i + 1) else F) ∧ lo ≤ w13.heap.size) := hid ⟨HE.out.1.fail hs13 a13, HROT.out, HE.out.2.1.kept a13 (fun y hy => by have := HLO.out; simp at hy; omega), Nat.le_trans HE.out.2.2 a13.size⟩
        clear hs13 a13 HE HROT
        try dsimp only
        go_wp2_with fail
        go_roundw
        case rel => exact ⟨i + 1, s', _, by go_num, by omega, rfl, HE2⟩
        case measure => simp [intOf]; omega
      · have hipi : ¬ ((i : Nat) : Int) < ((pp : Nat) : Int) := by omega
        have hie : i = pp := by omega
        have HE2 : Hid (Tn w8 w11 G c nn rr pp lk3 ∧ lk3.filter (fun y => decide (y ∈ prefK nn rr pp k)) = F ∧ Mt lo w11 ⟨sp, sn, sc⟩ (if q + 1 = 0 then [] else F) ∧ lo ≤ w11.heap.size) := by
          have h1 := HN.out.2.1
          have h2 := HN.out.2.2.1
          have hl := HFF.out.1
          have hd : F.drop i = [] := List.drop_eq_nil_of_le (by omega)
          have ht : F.take i = F := List.take_of_length_le (by omega)
          rw [hd, ht] at h1
          rw [ht] at h2
          refine hid ⟨HN.out.1, h1, ?_, HN.out.2.2.2⟩
          rw [if_neg (by omega)]
          by_cases e : q = 0 <;> simp [e] at h2 <;> exact h2
        clear hie hpr HPR HN
        try dsimp only
        go_wp2_with fail
        go_roundw
        case rel => exact ⟨q + 1, ⟨sp, sn, sc⟩, _, by go_num, by omega, rfl, HE2⟩
        case measure => simp [intOf]; omega
    · have hqi : ¬ ((q : Nat) : Int) < 2 := by omega
      have HEA := hid (HFA.out _ HO.out.1.ap)
      go_wp2_with fail
      go_ret
      exact ⟨rfl, HEA.out⟩
end Go.Proofs.YtpddokbjjhbfgaaGreat.ds
namespace Go.Proofs.YtpddokbjjhbfgaaGreat.ds
open Go.ChangeShapes Go.WideShapes Go.ChangeAt Go.RowKit Go.Deep Go.Sort
set_option linter.unusedVariables false
set_option linter.unusedSimpArgs false
set_option maxRecDepth 100000
theorem laidOut : laidOutB Tryz.prog = true := by kernel_rfl
theorem Apart.below {X : List Nat} {w w' : World} (h : Apart X w w') {B : Nat} (hB : B ≤ w.heap.size) (hx : ∀ x ∈ X, B ≤ x) : Below B w w' :=
  ⟨h.os, h.tape, h.output, h.size, fun k hk => h.block k (by omega) (fun m => by have := hx k m; omega)⟩
theorem c3 : Tryz.prog.cellsOf 3 = 1 := by kernel_rfl
theorem c23 : Tryz.prog.cellsOf 23 = 5 := by kernel_rfl
theorem in64_wf {z : Int} (h : (Lit.int .i64 z).wf = true) : In64 z := by
  simp [Lit.wf, IntKind.bits, IntKind.signed, IntKind.min, IntKind.max] at h
  unfold In64
  omega
theorem open_start {H : Type} {enc : TypeId × Value → H} {W : World} {fuel : Nat} {cs : Array Value} {x : DataW H × List MemPlace} (hsz : cs.size = 5) (h : DataW.trod enc Tryz.prog W 0 (fun _ => true) true fuel 23 cs.toList = some x) :
    ∃ s0 s1 s2 s3 s4 : Int, cs = #[.int .i64 s0, .int .i64 s1, .int .i64 s2, .int .i64 s3, .int .i64 s4] ∧ In64 s0 ∧ In64 s1 ∧ In64 s2 ∧ In64 s3 ∧ In64 s4 := by
  obtain ⟨l⟩ := cs
  simp only [List.size_toArray] at hsz
  match l, hsz with
  | [a0, a1, a2, a3, a4], _ =>
    simp only at h
    obtain ⟨xs, k, hk, hxy, _, hxl, hf⟩ := DataW.trod_struct Tryz.underlying23 h
    match xs, hxl with
    | [y0, y1, y2, y3, y4], _ =>
      have g0 := hf 0 _ rfl
      have g1 := hf 1 _ rfl
      have g2 := hf 2 _ rfl
      have g3 := hf 3 _ rfl
      have g4 := hf 4 _ rfl
      simp [c3] at g0 g1 g2 g3 g4
      obtain ⟨k0, q0, _, f0⟩ := DataW.trod_int Tryz.underlying3 g0
      obtain ⟨k1, q1, _, f1⟩ := DataW.trod_int Tryz.underlying3 g1
      obtain ⟨k2, q2, _, f2⟩ := DataW.trod_int Tryz.underlying3 g2
      obtain ⟨k3, q3, _, f3⟩ := DataW.trod_int Tryz.underlying3 g3
      obtain ⟨k4, q4, _, f4⟩ := DataW.trod_int Tryz.underlying3 g4
      simp only [List.cons.injEq, and_true] at q0 q1 q2 q3 q4
      subst q0 q1 q2 q3 q4
      exact ⟨k0, k1, k2, k3, k4, rfl, in64_wf f0, in64_wf f1, in64_wf f2, in64_wf f3, in64_wf f4⟩
theorem open_il {H : Type} {enc : TypeId × Value → H} {W : World} {fuel : Nat} {v : Value} {x : DataW H × List MemPlace} (h : DataW.trod enc Tryz.prog W 0 (fun _ => true) true fuel 54 [v] = some x) :
    ∃ (p : Option Addr) (n cap : Nat) (fs : List Int), v = .slice p n cap ∧ Ird W p n fs ∧ n ≤ 9223372036854775807 := by
  rcases open_ints Tryz.underlying54 Tryz.underlying3 c3 h with ⟨hcs, _⟩ | ⟨a, l, c, zs, hcs, _, hl, hm, hz, hx, hcell, hwz⟩
  · simp at hcs
    exact ⟨none, 0, 0, [], hcs, ⟨rfl, fun h => by omega⟩, by omega⟩
  · simp at hcs
    simp only [if_true] at hz
    refine ⟨some a, l, c, zs.take l, hcs, ⟨by simp; omega, fun h0 => ?_⟩, by unfold maxLen at hm; omega⟩
    obtain ⟨g, o, spot⟩ := a
    have hc := hcell 0 (by omega)
    have hspot : spot = none := by simpa [Addr.add] using World.cell?_spot hc
    subst hspot
    refine ⟨g, o, rfl, ?_, fun j hj => ?_⟩
    · rw [Addr.add_lit] at hc
      exact block_lt_of_cell hc
    · rw [List.length_take] at hj
      have hc2 := hcell j (by omega)
      rw [Addr.add_lit] at hc2
      rw [hc2, List.getElem_take, List.getD_eq_getElem?_getD, List.getElem?_eq_getElem (by omega)]
      rfl
end Go.Proofs.YtpddokbjjhbfgaaGreat.ds
