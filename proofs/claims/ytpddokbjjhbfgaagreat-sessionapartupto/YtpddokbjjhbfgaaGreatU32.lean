import Derived.Test.YtpddokbjjhbfgaaGreatChecked
import Derived.WalkKit
import Derived.ProofKit
import Derived.Maps.OwnSet
import Derived.Maps.RangeWalk
import Derived.DeepKeys4
import Derived.MapViews
import Derived.StringKeys
import Derived.Lib.TrailingZeros
import Derived.OpenShut
import Derived.Deep.QuietTactic
import Derived.BigQuiet
import Derived.BigRegion
import Derived.Laws.CopyOwn
import Derived.Laws.Bits64b
import Derived.Laws.MathBits
import Derived.Laws.ShiftsVarLaws
import Derived.WalkSmall
import Derived.Laws.ResultCell
import Derived.Lib.BitFns
import Derived.Laws.StructEq
import Derived.Deep.RegionHeld
import Derived.ArgAppend
import Derived.Deep.RegionLaw
import Derived.Deep.DeepAppendRoom
import Derived.Sort.WalkA
import Derived.Laws.Strings
import Derived.Deep.CutBlock
import Derived.Great.BuildSlice
import Derived.Laws.BytesString
import Derived.Laws.AppendOwnNone
import Derived.Lib.Overlaps
import Derived.Lib.AppendZerosOnto
import Derived.Laws.NewBlocks
import Derived.Laws.Externs
import Derived.Laws.IdiomCopy
import Derived.RangeFuncNested
import Derived.RangeFuncBound
import Derived.RangeFuncCalls
import Derived.RangeFuncLeaves
import Derived.Shelf.Abstract
import Derived.Shelf.RegionOpen
import Derived.OwnWalkIn
import Derived.TacticsInMore
import Derived.LoopNIn
import Derived.LoopIn
import Derived.Deep.CutRange
import Derived.Deep.OwnRows
import Derived.Lib.Walk
import Derived.Lib.SliceRun
import GoSem.Claim
import GoSem.ClaimJoined
import GoSem.ClaimMapViews
import Derived.JoinedTies
import Derived.KernelRfl
import Derived.Lib.LaidTab
import Derived.JoinedCond
import Derived.ShutString
import Derived.ChangeOld
import Derived.Below
import Derived.Carry
import Derived.ChangeSlices
import Derived.Deep.Slices
import Derived.Deep.DeepHandedRow
import Derived.RowKit
import Derived.ChangeShapes
import Derived.SizedLaws
import Derived.ChangeMaps5
import Derived.OrdersHeld
import Derived.Lib.AppendStr
import Derived.Lib.ConvBytes
import Derived.Deep.RegionHeld3
import Derived.Deep.MidRow
import Derived.Laws.BitsAllLaws
import Derived.Sort.Grow
import Derived.Shelf.SlSortCmp.WholeK
import Derived.Shelf.Lay
import Derived.Ground.SlsfProg
import Derived.Sort.LotA
import Derived.Sort.MapsRangeIn
import Derived.RangeFuncSeq
import Derived.RangeFuncKeeps
import Derived.Maps.AppendAt
import Derived.OwnWalk
import Derived.Test.YtpddokbjjhbfgaaGreatRows
import Derived.Test.YtpddokbjjhbfgaaGreatU24
import Derived.Test.YtpddokbjjhbfgaaGreatU26
import Derived.Test.YtpddokbjjhbfgaaGreatU27
import Derived.Test.YtpddokbjjhbfgaaGreatU31
namespace Go.Proofs.YtpddokbjjhbfgaaGreat.ds
open Go.ChangeShapes Go.WideShapes Go.ChangeAt Go.RowKit Go.Sort
set_option linter.unusedVariables false
set_option linter.unusedSimpArgs false

/-- the session being made -/
structure MkR (w4 w6 wt : World) (c : Cf) (S R : Nat) (s : Sl) (l : List Int) : Prop where
  blk : wt.heap[S]? = some (.cells #[.int .i64 c.n, .int .i64 c.p, .int .i64 c.r, .int .i64 c.s, .int .i64 c.g, .int .i64 c.c, .int .i64 c.k, .int .i64 c.h, .int .i64 c.b, .pointer (some ⟨R, 0, none⟩), .slice s.p s.n s.c, .slice none 0 0] 116 (0, 0))
  row : Nw w4 wt 3 1 s (iV l)
  ap : Apart [S] w6 wt
/-- the document's session in memory, just made -/
def RNewP (w : World) (c : Cf) (nn rr j : Nat) (r : Ending) (w' : World) : Prop := ∃ (S R : Nat) (s : Sl), r = .returned (.tuple #[.pointer (some ⟨S, 0, none⟩), .int .i64 0]) ∧ w'.heap[S]? = some (.cells #[.int .i64 c.n, .int .i64 c.p, .int .i64 c.r, .int .i64 c.s, .int .i64 c.g, .int .i64 c.c, .int .i64 c.k, .int .i64 c.h, .int .i64 c.b, .pointer (some ⟨R, 0, none⟩), .slice s.p s.n s.c, .slice none 0 0] 116 (0, 0)) ∧ rg.Rg w' R nn rr ∧ Nw w w' 3 1 s (iV (likeL nn j nn)) ∧ w.heap.size ≤ S ∧ w.heap.size ≤ R ∧ R ≠ S ∧ s.v.ownBlock ≠ some S
set_option maxHeartbeats 16000000 in
set_option maxRecDepth 100000 in
theorem rnew_ok (w : World) (c : Cf) (hc : CR c = true) (nn rr pp j : Nat) (hcn : c.n = nn) (hcr : c.r = rr) (hcp : c.p = pp) (hj : j < nn) : Calls Tryz.prog 26 #[.agg c.a, .int .i64 (j : Nat)] w fun r w' => RNewP w c nn rr j r w' := by
  have hcr2 := hc
  unfold CR at hcr2
  simp only [Bool.and_eq_true, decide_eq_true_eq] at hcr2
  have HB : Hid (1 ≤ nn ∧ nn ≤ 8 ∧ 1 ≤ rr ∧ rr ≤ 16 ∧ 1 ≤ pp ∧ pp ≤ nn) := by unfold Hid; omega
  have HEQ := hid (And.intro hcn (And.intro hcr hcp))
  obtain ⟨C, HXC⟩ : ∃ X, Hid (X = w.heap.size) := ⟨_, rfl⟩
  obtain ⟨w1, hw1⟩ : ∃ V, V = w.alloc (.cells c.a 27) := ⟨_, rfl⟩
  have a1 : Apart [] w w1 := by rw [hw1]; exact (Apart.refl [] w).alloc _
  have hC1 : w1.heap[C]? = some (.cells c.a 27 (0, 0)) := by rw [hw1, HXC.out]; exact heap_alloc_new w _
  have HC1 := hid hC1
  have HA1 := hid a1
  have HRT := hid (right30 w1 c)
  rw [hc] at HRT
  have hj0 : ¬ ((j : Nat) : Int) < 0 := by omega
  clear hcr2 a1 hC1 hc hcr hcp
  unfold Cf.a at hw1 HC1 HRT ⊢
  rw [hcn] at hw1 HC1 HRT ⊢
  have hj1 : ¬ ((j : Nat) : Int) ≥ (nn : Int) := by omega
  clear hcn
  go_enter Tryz.func26, Tryz.ntmps26
  go_upto_region 1 with fail
  rw [← hw1, ← HXC.out]
  clear hw1 HXC
  have g0 := crow HC1.out 0 (.int .i64 (nn : Nat)) rfl
  have g1 := crow HC1.out 1 (.int .i64 c.p) rfl
  have g2 := crow HC1.out 2 (.int .i64 c.r) rfl
  have g3 := crow HC1.out 3 (.int .i64 c.s) rfl
  have g4 := crow HC1.out 4 (.int .i64 c.g) rfl
  have g5 := crow HC1.out 5 (.int .i64 c.c) rfl
  have g6 := crow HC1.out 6 (.int .i64 c.k) rfl
  have g7 := crow HC1.out 7 (.int .i64 c.h) rfl
  have g8 := crow HC1.out 8 (.int .i64 c.b) rfl
  go_wp2_with fail
  refine HRT.out.mono ?_
  rintro _ w2 ⟨rfl, a2⟩
  have HC2 := hid (keep0 a2 HC1.out)
  have HA2 := hid (HA1.out.trans a2)
  clear a2 g0 g1 g2 g3 g4 g5 g6 g7 g8 HRT HC1 HA1
  have g0 := crow HC2.out 0 (.int .i64 (nn : Nat)) rfl
  have g2 := crow HC2.out 2 (.int .i64 (rr : Nat)) (by rw [← HEQ.out.2.1]; rfl)
  try dsimp only
  go_wp2_with fail
  refine (rg.rnew_ok nn rr HB.out.1 HB.out.2.1 HB.out.2.2.1 HB.out.2.2.2.1 w2).mono ?_
  rintro _ w3 ⟨⟨rfl, hrg⟩, a3⟩
  obtain ⟨R, HXR⟩ : ∃ X, Hid (X = w2.heap.size) := ⟨_, rfl⟩
  rw [← HXR.out] at hrg ⊢
  have HRG := hid hrg
  have HC3 := hid (keep0 (ra a3) HC2.out)
  have HA3 := hid (HA2.out.trans (ra a3))
  have HRn : Hid (w.heap.size ≤ R) := by unfold Hid; rw [HXR.out]; exact HA2.out.size
  clear a3 hrg g0 g2 HC2 HA2 HXR
  obtain ⟨S, HXS⟩ : ∃ X, Hid (X = w3.heap.size) := ⟨_, rfl⟩
  obtain ⟨w5, hw5⟩ : ∃ V, V = w3.alloc (.cells #[.int .i64 (nn : Nat), .int .i64 c.p, .int .i64 c.r, .int .i64 c.s, .int .i64 c.g, .int .i64 c.c, .int .i64 c.k, .int .i64 c.h, .int .i64 c.b, .pointer (some ⟨R, 0, none⟩), .slice none 0 0, .slice none 0 0] 116) := ⟨_, rfl⟩
  have a5 : Apart [] w3 w5 := by rw [hw5]; exact (Apart.refl [] w3).alloc _
  have hS5 : w5.heap[S]? = some (.cells #[.int .i64 (nn : Nat), .int .i64 c.p, .int .i64 c.r, .int .i64 c.s, .int .i64 c.g, .int .i64 c.c, .int .i64 c.k, .int .i64 c.h, .int .i64 c.b, .pointer (some ⟨R, 0, none⟩), .slice none 0 0, .slice none 0 0] 116 (0, 0)) := by rw [hw5, HXS.out]; exact heap_alloc_new w3 _
  have HC5 := hid (keep0 a5 HC3.out)
  have HR5 := hid (HRG.out.kept0 (ar a5))
  have HA5 := hid (HA3.out.trans a5)
  have HMK : Hid (MkR w3 w5 w5 c S R slz (likeL nn j 0)) := hid ⟨by rw [HEQ.out.1]; exact hS5, Nw.none0 a5 _ _, Apart.refl _ _⟩
  have HNE : Hid (C ≠ S ∧ R ≠ S ∧ w.heap.size ≤ S ∧ w3.heap.size = S ∧ w5.heap.size = S + 1) := by
    have h1 := lt_of_heap HC3.out
    have h2 := HRG.out.lt
    have h5 := HA3.out.size
    have h7 := HXS.out
    have h9 : w5.heap.size = w3.heap.size + 1 := by rw [hw5]; exact Array.size_push _
    exact hid ⟨by omega, by omega, by omega, by omega, by omega⟩
  have g0 := crow HC3.out 0 (.int .i64 (nn : Nat)) rfl
  have g1 := crow HC3.out 1 (.int .i64 c.p) rfl
  have g2 := crow HC3.out 2 (.int .i64 c.r) rfl
  have g3 := crow HC3.out 3 (.int .i64 c.s) rfl
  have g4 := crow HC3.out 4 (.int .i64 c.g) rfl
  have g5 := crow HC3.out 5 (.int .i64 c.c) rfl
  have g6 := crow HC3.out 6 (.int .i64 c.k) rfl
  have g7 := crow HC3.out 7 (.int .i64 c.h) rfl
  have g8 := crow HC3.out 8 (.int .i64 c.b) rfl
  clear hS5
  try dsimp only
  go_upto_region 7 with fail
  rw [← hw5, ← HXS.out]
  clear hw5 HXS a5 g0 g1 g2 g3 g4 g5 g6 g7 g8
  go_wp2_with fail
  have d1 : decide (nn ≤ j) = false := decide_eq_false (by omega)
  have d2 : decide (((j : Nat) : Int) < 0) = false := decide_eq_false (by omega)
  try simp only [d1, d2, Bool.or_false]
  clear d1 d2
  go_loopw [9] (fun a wt => ∃ (i : Nat) (s : Sl), a = .int .i64 (i : Nat) ∧ i ≤ nn ∧ Hid (MkR w3 w5 wt c S R s (likeL nn j i))) (fun a _ => nn - (intOf a).toNat)
  case atStart => exact ⟨0, slz, rfl, Nat.zero_le _, HMK⟩
  case round =>
    obtain ⟨i, s, rfl, hile, HI⟩ := hrel
    clear HMK
    have g0 := crow (keepB HI.out.ap HC5.out HNE.out.1) 0 (.int .i64 (nn : Nat)) rfl
    by_cases hlt : i < nn
    · have hlti : ((i : Nat) : Int) < (nn : Int) := by omega
      have hn8 := HB.out.2.1
      go_upto_region 10 with fail
      clear g0
      have HCW : Hid (∀ W, Apart [S] w5 W → W.cell? ⟨C, 0, none⟩ = some (.int .i64 (nn : Nat))) := fun W a => crow (keepB a HC5.out HNE.out.1) 0 _ rfl
      have hAd : Apart [S] w5 wr.drew := HI.out.ap.trans ((Apart.refl [S] wr).drew)
      refine wp_region_held_drew (S := fun W => Apart [S] w5 W) (by kernel_rfl) hAd (fun hHeld => ?_)
      have hAw : Apart [] wr wr.drew := (Apart.refl [] wr).drew
      have HD : Hid (MkR w3 w5 wr.drew c S R s (likeL nn j i)) := hid ⟨keep0 hAw HI.out.blk, HI.out.row.kept hAw, HI.out.ap.trans (hAw.mono (by simp))⟩
      generalize wr.drew = wd at *
      clear hAd hAw
      obtain ⟨t, Ht⟩ : ∃ t : Int, Hid (t = (((j + i) % nn : Nat) : Int)) := ⟨_, rfl⟩
      have hadd : IntKind.i64.wrap (((j : Nat) : Int) + ((i : Nat) : Int)) = ((j + i : Nat) : Int) := by rw [IntKind.wrap_i64]; omega
      have hrem : (((j : Nat) : Int) + ((i : Nat) : Int)).tmod (nn : Int) = t := by rw [Ht.out, Int.tmod_eq_emod_of_nonneg (by omega), Int.natCast_emod, Int.natCast_add]
      have HAD := hid hadd
      clear hadd
      refine tk 0 39 (.pointer (some ⟨S, 0, none⟩)) rfl ?_ ?_
      · intro W hSW; go_simp
      simp only [Act.put, List.setIfInBounds_toArray, List.set_cons_zero, List.set_cons_succ]
      refine tk 1 40 (.pointer (some ⟨S, 0, none⟩)) rfl ?_ ?_
      · intro W hSW; go_simp
      simp only [Act.put, List.setIfInBounds_toArray, List.set_cons_zero, List.set_cons_succ]
      refine tk 2 41 (.pointer (some ⟨S, 0, none⟩)) rfl ?_ ?_
      · intro W hSW; go_simp
      simp only [Act.put, List.setIfInBounds_toArray, List.set_cons_zero, List.set_cons_succ]
      refine tk 3 42 (.pointer (some ⟨S, 10, none⟩)) rfl ?_ ?_
      · intro W hSW; go_simp
      simp only [Act.put, List.setIfInBounds_toArray, List.set_cons_zero, List.set_cons_succ]
      refine tk 5 44 (.int .i64 (j : Nat)) rfl ?_ ?_
      · intro W hSW; go_simp
      simp only [Act.put, List.setIfInBounds_toArray, List.set_cons_zero, List.set_cons_succ]
      refine tk 6 45 (.int .i64 (i : Nat)) rfl ?_ ?_
      · intro W hSW; go_simp
      simp only [Act.put, List.setIfInBounds_toArray, List.set_cons_zero, List.set_cons_succ]
      refine tk 7 46 (.int .i64 ((j + i : Nat) : Int)) rfl ?_ ?_
      · intro W hSW; (have hadd := HAD.out); go_simp
      simp only [Act.put, List.setIfInBounds_toArray, List.set_cons_zero, List.set_cons_succ]
      refine tk 8 47 (.pointer (some ⟨C, 0, none⟩)) rfl ?_ ?_
      · intro W hSW; go_simp
      simp only [Act.put, List.setIfInBounds_toArray, List.set_cons_zero, List.set_cons_succ]
      refine tk 9 48 (.int .i64 (nn : Nat)) rfl ?_ ?_
      · intro W hSW; have g0 := HCW.out W hSW; go_simp
      simp only [Act.put, List.setIfInBounds_toArray, List.set_cons_zero, List.set_cons_succ]
      refine tk 10 49 (.int .i64 t) rfl ?_ ?_
      · intro W hSW; (have hnn0 : ¬ nn = 0 := by omega); go_simp
      simp only [Act.put, List.setIfInBounds_toArray, List.set_cons_zero, List.set_cons_succ]
      clear hrem
      obtain ⟨s', w7, hrun, hn7, hap7⟩ := appI HD.out.row t (by simp [likeL, likeN]; omega)
      have HRUN := hid hrun
      have hown : ∀ k, s.v.ownBlock = some k → k ≠ S := fun k hk e => by
        obtain ⟨cur, hc⟩ := own_typ HD.out.row.own hk
        rw [e, HD.out.blk] at hc
        simp at hc
      have hS7 := (hap7.block S (lt_of_heap HD.out.blk) (fun hm => hown S (by simpa using hm) rfl)).trans HD.out.blk
      have hA7 : Apart [S] w5 w7 := HD.out.ap.trans' hap7 (fun y hy => by
        have hy' : s.v.ownBlock = some y := by simpa using hy
        have h1 := HD.out.row.new y hy'
        have h2 := hown y hy'
        have h3 := HNE.out.2.2.2
        exact .inr (by omega))
      have z7 := crow hS7 10 (.slice s.p s.n s.c) rfl
      have f7 := frozen_of_row _ _ 10 _ _ hS7
      obtain ⟨w8, hw8⟩ : ∃ V, V = w7.setCell ⟨S, 10, none⟩ (.slice s'.p s'.n s'.c) := ⟨_, rfl⟩
      have a8 : Apart [S] w7 w8 := by rw [hw8]; exact (Apart.refl _ _).setCell (.inl (by simp)) _
      have hS8 : w8.heap[S]? = some (.cells #[.int .i64 c.n, .int .i64 c.p, .int .i64 c.r, .int .i64 c.s, .int .i64 c.g, .int .i64 c.c, .int .i64 c.k, .int .i64 c.h, .int .i64 c.b, .pointer (some ⟨R, 0, none⟩), .slice s'.p s'.n s'.c, .slice none 0 0] 116 (0, 0)) := by rw [hw8]; have := heap_setCell_same w7 S 10 _ 116 (.slice s'.p s'.n s'.c) hS7; simpa using this
      have hown' : ∀ k, s'.v.ownBlock = some k → k ≠ S := fun k hk e => by
        obtain ⟨cur, hc⟩ := own_typ hn7.own hk
        rw [e, hS7] at hc
        simp at hc
      have HE : Hid (MkR w3 w5 w8 c S R s' (likeL nn j (i + 1))) := hid ⟨hS8, by rw [likeL_succ, ← Ht.out]; exact ⟨own_apart hn7.own a8 (fun k hk hm => hown' k hk (by simpa using hm)), hn7.new, hn7.ap.trans' a8 (fun y hy => .inr (by simp at hy; have := HNE.out.2.2.2; omega))⟩, hA7.trans a8⟩
      have aL : Apart [] wd (wd.alloc (Obj.cells #[.int .i64 t] 3)) := (Apart.refl [] wd).alloc _
      have z1 := crow HD.out.blk 10 (.slice s.p s.n s.c) rfl
      have z2 := crow (keep0 aL HD.out.blk) 10 (.slice s.p s.n s.c) rfl
      have hAL : Apart [S] w5 (wd.alloc (Obj.cells #[.int .i64 t] 3)) := HD.out.ap.trans (aL.mono (by simp))
      have hA8 := hA7.trans a8
      clear hrun hn7 hap7 hown hown' hS7 a8 hS8 aL
      refine wpAnyH_ready (rs := [4, 11]) (by kernel_rfl) (by simp) ?_
      refine AllReadyH.cons rfl (fun KK hKK => ?_) (AllReadyH.cons rfl (fun KK hKK => ?_) AllReadyH.nil)
      · skip
        go_simp
        refine hKK.out _ _ hHeld (fun hHeld => ?_)
        clear hKK KK
        try simp only [Act.put, List.setIfInBounds_toArray, List.set_cons_zero, List.set_cons_succ]
        refine wpAnyH_ready (rs := [11]) (by kernel_rfl) (by simp) ?_
        refine AllReadyH.cons rfl (fun KK hKK => ?_) AllReadyH.nil
        go_simp
        refine hKK.out _ _ hAL (fun hHeld => ?_)
        clear hKK KK
        try simp only [Act.put, List.setIfInBounds_toArray, List.set_cons_zero, List.set_cons_succ]
        refine wpAnyH_ready (rs := [12]) (by kernel_rfl) (by simp) ?_
        refine AllReadyH.cons rfl (fun KK hKK => ?_) AllReadyH.nil
        refine step_app2 (o := ⟨some 51, _, _, _, _, _⟩) rfl (.tmp 43) (.tmp 50) 54 54 rfl _ _ rfl rfl _ _ HRUN.out ?_
        refine hKK.out _ _ hA7 (fun hHeld => ?_)
        clear hKK KK
        try simp only [Act.put, List.setIfInBounds_toArray, List.set_cons_zero, List.set_cons_succ]
        refine tk 13 52 (.pointer (some ⟨S, 0, none⟩)) rfl ?_ ?_
        · intro W hSW; go_simp
        simp only [Act.put, List.setIfInBounds_toArray, List.set_cons_zero, List.set_cons_succ]
        refine tk 14 53 (.pointer (some ⟨S, 10, none⟩)) rfl ?_ ?_
        · intro W hSW; go_simp
        simp only [Act.put, List.setIfInBounds_toArray, List.set_cons_zero, List.set_cons_succ]
        refine wpAnyH_ready (rs := [15]) (by kernel_rfl) (by simp) ?_
        refine AllReadyH.cons rfl (fun KK hKK => ?_) AllReadyH.nil
        go_simp
        rw [← hw8]
        clear hw8
        refine hKK.out _ _ hA8 (fun hHeld => ?_)
        clear hKK KK
        try simp only [Act.put, List.setIfInBounds_toArray, List.set_cons_zero, List.set_cons_succ]
        refine wpAnyH_done (by kernel_rfl) ?_ _
        clear hHeld
        go_wp2_with fail
        go_roundw
        case rel => first | exact ⟨i + 1, s', by go_num, by omega, HE⟩ | (refine ⟨_, _, _, _, _, _, _, _, _, _, _, _, _, _, _, _, _, _, _, _, ⟨i + 1, s', ?_, by omega, HE⟩, rfl⟩; go_num) | (set_option pp.deepTerms true in set_option pp.maxSteps 1000000 in trace_state)
        case measure => simp [intOf]; omega
      · skip
        go_simp
        refine hKK.out _ _ hAL (fun hHeld => ?_)
        clear hKK KK
        try simp only [Act.put, List.setIfInBounds_toArray, List.set_cons_zero, List.set_cons_succ]
        refine wpAnyH_ready (rs := [4]) (by kernel_rfl) (by simp) ?_
        refine AllReadyH.cons rfl (fun KK hKK => ?_) AllReadyH.nil
        go_simp
        refine hKK.out _ _ hAL (fun hHeld => ?_)
        clear hKK KK
        try simp only [Act.put, List.setIfInBounds_toArray, List.set_cons_zero, List.set_cons_succ]
        refine wpAnyH_ready (rs := [12]) (by kernel_rfl) (by simp) ?_
        refine AllReadyH.cons rfl (fun KK hKK => ?_) AllReadyH.nil
        refine step_app2 (o := ⟨some 51, _, _, _, _, _⟩) rfl (.tmp 43) (.tmp 50) 54 54 rfl _ _ rfl rfl _ _ HRUN.out ?_
        refine hKK.out _ _ hA7 (fun hHeld => ?_)
        clear hKK KK
        try simp only [Act.put, List.setIfInBounds_toArray, List.set_cons_zero, List.set_cons_succ]
        refine tk 13 52 (.pointer (some ⟨S, 0, none⟩)) rfl ?_ ?_
        · intro W hSW; go_simp
        simp only [Act.put, List.setIfInBounds_toArray, List.set_cons_zero, List.set_cons_succ]
        refine tk 14 53 (.pointer (some ⟨S, 10, none⟩)) rfl ?_ ?_
        · intro W hSW; go_simp
        simp only [Act.put, List.setIfInBounds_toArray, List.set_cons_zero, List.set_cons_succ]
        refine wpAnyH_ready (rs := [15]) (by kernel_rfl) (by simp) ?_
        refine AllReadyH.cons rfl (fun KK hKK => ?_) AllReadyH.nil
        go_simp
        rw [← hw8]
        clear hw8
        refine hKK.out _ _ hA8 (fun hHeld => ?_)
        clear hKK KK
        try simp only [Act.put, List.setIfInBounds_toArray, List.set_cons_zero, List.set_cons_succ]
        refine wpAnyH_done (by kernel_rfl) ?_ _
        clear hHeld
        go_wp2_with fail
        go_roundw
        case rel => first | exact ⟨i + 1, s', by go_num, by omega, HE⟩ | (refine ⟨_, _, _, _, _, _, _, _, _, _, _, _, _, _, _, _, _, _, _, _, ⟨i + 1, s', ?_, by omega, HE⟩, rfl⟩; go_num) | (set_option pp.deepTerms true in set_option pp.maxSteps 1000000 in trace_state)
        case measure => simp [intOf]; omega
    · have hin : i = nn := by omega
      have hlti : ¬ ((i : Nat) : Int) < (nn : Int) := by omega
      have HF : Hid (MkR w3 w5 wr c S R s (likeL nn j nn)) := by rw [← hin]; rw [hin] at HI ⊢; exact HI
      have hll : (likeL nn j nn).length = nn := by simp [likeL, likeN]
      have hne := HNE.out
      have hRlt := HR5.out.lt
      have HEN : Hid (RNewP w c nn rr j (.returned (.tuple #[.pointer (some ⟨S, 0, none⟩), .int .i64 0])) wr) := by
        refine hid ⟨S, R, s, rfl, HF.out.blk, Rg_same HR5.out (HF.out.ap.block R hRlt (by simp; exact hne.2.1)), ⟨HF.out.row.own, fun k hk => ?_, HA5.out.trans' HF.out.ap (fun y hy => .inr (by simp at hy; omega))⟩, hne.2.2.1, HRn.out, hne.2.1, fun e => ?_⟩
        · have := HF.out.row.new k hk
          omega
        · obtain ⟨cur, hc⟩ := own_typ HF.out.row.own e
          rw [HF.out.blk] at hc
          simp at hc
      clear hne hRlt hll
      go_wp2_with fail
      go_ret2
      exact HEN.out
end Go.Proofs.YtpddokbjjhbfgaaGreat.ds
namespace Go.Proofs.YtpddokbjjhbfgaaGreat.ds
open Go.ChangeShapes Go.WideShapes Go.ChangeAt Go.RowKit Go.Sort
set_option linter.unusedVariables false
set_option linter.unusedSimpArgs false

def ptr0 (k : Nat) : Value := .pointer (some ⟨k, 0, none⟩)
/-- both sessions, made -/
def BegP (w : World) (c : Cf) (nn rr pp j : Nat) (r : Ending) (w' : World) : Prop := ∃ (x y : Nat) (w0 w1 w2 : World), Apart [] w w0 ∧ NewP w0 c nn rr pp j (.returned (.tuple #[.pointer (some ⟨x, 0, none⟩), .int .i64 0])) w1 ∧ RNewP w1 c nn rr j (.returned (.tuple #[.pointer (some ⟨y, 0, none⟩), .int .i64 0])) w2 ∧ w' = w2.alloc (.cells #[.pointer (some ⟨x, 0, none⟩), .pointer (some ⟨y, 0, none⟩)] 78) ∧ r = .returned (.tuple #[.pointer (some ⟨w2.heap.size, 0, none⟩), .bool true])
theorem NewP.ret {w : World} {c : Cf} {nn rr pp j : Nat} {r : Ending} {w' : World} (h : NewP w c nn rr pp j r w') : (∃ x : Nat, r = .returned (.tuple #[.pointer (some ⟨x, 0, none⟩), .int .i64 0])) ∧ Apart [] w w' := by
  obtain ⟨G, h1, -, h3, -⟩ := h
  exact ⟨⟨G.S, h1⟩, h3⟩
theorem RNewP.ret {w : World} {c : Cf} {nn rr j : Nat} {r : Ending} {w' : World} (h : RNewP w c nn rr j r w') : (∃ x : Nat, r = .returned (.tuple #[.pointer (some ⟨x, 0, none⟩), .int .i64 0])) ∧ Apart [] w w' := by
  obtain ⟨S, R, s, h1, -, -, h3, -⟩ := h
  exact ⟨⟨S, h1⟩, h3.ap⟩
set_option maxHeartbeats 4000000 in
set_option maxRecDepth 100000 in
theorem begun_ok (w : World) (c : Cf) (hc : CR c = true) (nn rr pp j : Nat) (hcn : c.n = nn) (hcr : c.r = rr) (hcp : c.p = pp) (hj : j < nn) : Calls Tryz.prog 29 #[.agg c.a, .int .i64 (j : Nat)] w fun r w' => BegP w c nn rr pp j r w' := by
  have HN1 : Hid (∀ W, Calls Tryz.prog 11 #[.agg c.a, .int .i64 (j : Nat)] W fun r w' => NewP W c nn rr pp j r w') := fun W => new_ok W c hc nn rr pp j hcn hcr hcp hj
  have HN2 : Hid (∀ W, Calls Tryz.prog 26 #[.agg c.a, .int .i64 (j : Nat)] W fun r w' => RNewP W c nn rr j r w') := fun W => rnew_ok W c hc nn rr pp j hcn hcr hcp hj
  obtain ⟨C, HXC⟩ : ∃ X, Hid (X = w.heap.size) := ⟨_, hid rfl⟩
  obtain ⟨w0, hw0⟩ : ∃ V, V = w.alloc (.cells c.a 27) := ⟨_, rfl⟩
  have a1 : Apart [] w w0 := by rw [hw0]; exact (Apart.refl [] w).alloc _
  have hC1 : w0.heap[C]? = some (.cells c.a 27 (0, 0)) := by rw [hw0, HXC.out]; exact heap_alloc_new w _
  have HC1 := hid hC1
  have HA1 := hid a1
  clear a1 hC1 hc hcn hcr hcp hj
  unfold Cf.a at hw0 HC1 HN1 HN2 ⊢
  go_enter Tryz.func29, Tryz.ntmps29
  go_upto_region 1 with fail
  rw [← hw0, ← HXC.out]
  clear hw0 HXC
  have g0 := crow HC1.out 0 (.int .i64 c.n) rfl
  have g1 := crow HC1.out 1 (.int .i64 c.p) rfl
  have g2 := crow HC1.out 2 (.int .i64 c.r) rfl
  have g3 := crow HC1.out 3 (.int .i64 c.s) rfl
  have g4 := crow HC1.out 4 (.int .i64 c.g) rfl
  have g5 := crow HC1.out 5 (.int .i64 c.c) rfl
  have g6 := crow HC1.out 6 (.int .i64 c.k) rfl
  have g7 := crow HC1.out 7 (.int .i64 c.h) rfl
  have g8 := crow HC1.out 8 (.int .i64 c.b) rfl
  go_wp2_with fail
  refine (HN1.out w0).mono ?_
  intro r1 w1 hnp
  obtain ⟨⟨x, rfl⟩, a1⟩ := hnp.ret
  have HNP := hid hnp
  have HC2 := hid (keep0 a1 HC1.out)
  clear hnp a1 g0 g1 g2 g3 g4 g5 g6 g7 g8
  have g0 := crow HC2.out 0 (.int .i64 c.n) rfl
  have g1 := crow HC2.out 1 (.int .i64 c.p) rfl
  have g2 := crow HC2.out 2 (.int .i64 c.r) rfl
  have g3 := crow HC2.out 3 (.int .i64 c.s) rfl
  have g4 := crow HC2.out 4 (.int .i64 c.g) rfl
  have g5 := crow HC2.out 5 (.int .i64 c.c) rfl
  have g6 := crow HC2.out 6 (.int .i64 c.k) rfl
  have g7 := crow HC2.out 7 (.int .i64 c.h) rfl
  have g8 := crow HC2.out 8 (.int .i64 c.b) rfl
  try dsimp only
  go_wp2_with fail
  refine (HN2.out w1).mono ?_
  intro r2 w2 hnr
  obtain ⟨⟨y, rfl⟩, a2⟩ := hnr.ret
  have HNR := hid hnr
  clear hnr a2 g0 g1 g2 g3 g4 g5 g6 g7 g8
  try dsimp only
  go_wp2_with fail
  go_ret2
  exact ⟨x, y, w0, w1, w2, HA1.out, HNP.out, HNR.out, rfl, rfl⟩
end Go.Proofs.YtpddokbjjhbfgaaGreat.ds
namespace Go.Proofs.YtpddokbjjhbfgaaGreat.ds
open Go.ChangeShapes Go.WideShapes Go.ChangeAt Go.RowKit Go.Sort
set_option linter.unusedVariables false
set_option linter.unusedSimpArgs false

def kc : ByteArray := { data := #[99] }
def c0 : Cf := ⟨4, 2, 2, 2, 4, 100, 2, 1, 1⟩
def e0 : E := ⟨2, 1, { data := #[99] }, false, ⟨none, 0, 0⟩, ⟨none, 0, 0⟩⟩
theorem kc_key : keyR kc = true := by decide +kernel
theorem kc_pref : (3 : Int) ∈ prefK 4 2 2 kc := by unfold prefK; decide +kernel
theorem like43 : likeL 4 3 4 = [3, 0, 1, 2] := by decide +kernel
theorem wroteH1 (e : E) : wroteH [] e [] = [dotE e] := by simp [wroteH, rg.dt.insP]
theorem hz1 : hz [] (2, 1) = false := by unfold hz; rw [norm_of (OkL.nil 64)]; decide +kernel
theorem setR1 : setR c0 [] = true := by
  unfold setR c0
  simp only [chk, List.any_nil, Bool.not_false, Bool.and_true]
  rw [if_pos (OkL.nil 4)]
  rfl
theorem areR0 (c : Cf) (k : ByteArray) (X : Nat → List S) : areR c k [] [] X = true := by simp [areR]
theorem L0 (w : World) : L w none 0 [] := ⟨by simp [Sp], rfl, by omega, by simp⟩
theorem wr0 : wrR c0 e0 [] = true := by
  have h1 : keyR e0.k = true := kc_key
  unfold wrR
  rw [h1, show setR c0 [] = true from setR1, show hz [] (e0.n, e0.c) = false from hz1]
  decide
theorem got0 (X : Nat → List S) : gotE 5 (keyR kc) (setR c0 []) (areR c0 kc [] [] X) ([((2 : Int), (1 : Int))].all (hz [])) = 150 := by
  rw [kc_key, show setR c0 [] = true from setR1, areR0, show [((2 : Int), (1 : Int))].all (hz []) = false from by simp [hz1]]
  decide
theorem Ss.gl {w : World} {G : Gs} {c : Cf} {nn rr pp : Nat} {lk : List Int} {f : ByteArray → Sg} {N : Nat} (h : Ss w G c nn rr pp lk f N) : G.S < w.heap.size ∧ G.M < w.heap.size := ⟨lt_of_heap h.blk, h.mp.lt⟩
theorem Ws0 (w : World) (X : Nat → List S) : Ws w none 0 [] X := ⟨Rd.nil _ _, rfl, fun i hi => by omega, fun i hi => by omega, fun i hi => by omega⟩
theorem kc_sz : kc.size ≤ maxLen := by unfold kc maxLen; decide
theorem upd_c : updF (fun _ => (([] : List Dt), (0 : Int))) kc ([((2 : Int), (1 : Int))], 0) kc = ([(2, 1)], 0) := by simp [updF]
theorem got_c {w : World} {G : Gs} (h : Ss w G c0 4 2 2 [3, 0, 1, 2] (updF (fun _ => ([], 0)) kc ([(2, 1)], 0)) 1) : Calls Tryz.prog 14 #[.pointer (some ⟨G.S, 0, none⟩), .int .i64 5, .string { data := #[99] }, .slice none 0 0, .slice none 0 0] w fun r w' => r = .returned (.int .i64 150) ∧ Apart [] w w' := by
  have h1 := got_ok h (by omega) 5 kc_sz (p := none) (n := 0) (cap := 0) (es := []) (X := fun _ => []) (Ws0 w _) (by omega) (tp := none) (tn := 0) (tc := 0) (tok := []) (L0 w)
  rw [upd_c] at h1
  generalize hE : gotE 5 (keyR kc) (setR c0 []) (areR c0 kc [] [] (fun _ => [])) ([((2 : Int), (1 : Int))].all (hz [])) = er at h1
  have hE2 : er = 150 := by rw [← hE]; exact got0 _
  rw [hE2] at h1
  refine h1.mono ?_
  intro r w' hg
  unfold GotP at hg
  exact ⟨hg.1, hg.2.1 (by decide)⟩
set_option maxHeartbeats 16000000 in
set_option maxRecDepth 100000 in
theorem alive_ok (w : World) : Calls Tryz.prog 9 #[] w fun e w' => e = .returned (.bool true) ∧ Apart [] w w' := by
  obtain ⟨C, HXC⟩ : ∃ X, Hid (X = w.heap.size) := ⟨_, hid rfl⟩
  obtain ⟨w1, hw1⟩ : ∃ V, V = w.alloc (.cells #[.int .i64 4, .int .i64 2, .int .i64 2, .int .i64 2, .int .i64 4, .int .i64 100, .int .i64 2, .int .i64 1, .int .i64 1] 27) := ⟨_, rfl⟩
  have hC1 : w1.heap[C]? = some (.cells #[.int .i64 4, .int .i64 2, .int .i64 2, .int .i64 2, .int .i64 4, .int .i64 100, .int .i64 2, .int .i64 1, .int .i64 1] 27 (0, 0)) := by rw [hw1, HXC.out]; exact heap_alloc_new w _
  have HC1 := hid hC1
  have HA1 : Hid (Apart [] w w1) := by rw [hw1]; exact (Apart.refl [] w).alloc _
  have HBG : Hid (Calls Tryz.prog 29 #[.agg #[.int .i64 4, .int .i64 2, .int .i64 2, .int .i64 2, .int .i64 4, .int .i64 100, .int .i64 2, .int .i64 1, .int .i64 1], .int .i64 3] w1 fun r w' => BegP w1 c0 4 2 2 3 r w') := begun_ok w1 c0 (by decide) 4 2 2 3 rfl rfl rfl (by omega)
  clear hC1
  go_enter Tryz.func9, Tryz.ntmps9
  go_upto_region 2 with fail
  rw [← hw1]
  try rw [← HXC.out]
  clear hw1 HXC
  have g0 := crow HC1.out 0 (.int .i64 4) rfl
  have g1 := crow HC1.out 1 (.int .i64 2) rfl
  have g2 := crow HC1.out 2 (.int .i64 2) rfl
  have g3 := crow HC1.out 3 (.int .i64 2) rfl
  have g4 := crow HC1.out 4 (.int .i64 4) rfl
  have g5 := crow HC1.out 5 (.int .i64 100) rfl
  have g6 := crow HC1.out 6 (.int .i64 2) rfl
  have g7 := crow HC1.out 7 (.int .i64 1) rfl
  have g8 := crow HC1.out 8 (.int .i64 1) rfl
  go_wp2_with fail
  refine HBG.out.mono ?_
  rintro _ w5 ⟨x, y, w2, w3, w4, b1, hnp, hnr, hw5, rfl⟩
  obtain ⟨G, hG, hSs, b2, hnew⟩ := hnp
  simp only [Ending.returned.injEq, Value.tuple.injEq, Array.mk.injEq, List.cons.injEq, Value.pointer.injEq, Option.some.injEq, Addr.mk.injEq, and_true] at hG
  subst hG
  have b3 := hnr.ret.2
  have b4 : Apart [] w4 w5 := by rw [hw5]; exact (Apart.refl [] w4).alloc _
  obtain ⟨B, HXB⟩ : ∃ X, Hid (X = w4.heap.size) := ⟨_, hid rfl⟩
  rw [← HXB.out]
  have hB5 : w5.heap[B]? = some (.cells #[.pointer (some ⟨G.S, 0, none⟩), .pointer (some ⟨y, 0, none⟩)] 78 (0, 0)) := by rw [hw5, HXB.out]; exact heap_alloc_new w4 _
  rw [like43] at hSs
  have HS5 := hid (hSs.kept0 (b3.trans b4))
  have HMB : Hid (G.M < B ∧ w.heap.size ≤ G.M) := by
    have h1 := hSs.gl.2
    have h2 := b3.size
    have h3 := hnew G.M (.inr (.inr (.inr (.inl rfl))))
    have h4 := b1.size
    have h5 := HA1.out.size
    have h6 := HXB.out
    exact hid ⟨by omega, by omega⟩
  have HA5 := hid (HA1.out.trans (b1.trans (b2.trans (b3.trans b4))))
  have HB5 := hid hB5
  clear b1 b2 b3 b4 hnr hnew hSs hw5 hB5 HXB g0 g1 g2 g3 g4 g5 g6 g7 g8 HBG HC1 HA1
  have p0 := crow HB5.out 0 (.pointer (some ⟨G.S, 0, none⟩)) rfl
  try dsimp only
  go_wp2_with fail
  refine (next_ok HS5.out (by omega) kc (by unfold kc maxLen; decide)).mono ?_
  intro r6 w6 hnx
  rw [kc_key] at hnx
  obtain ⟨-, hn2, b6⟩ := hnx
  obtain ⟨v, rfl, hv⟩ := hn2 rfl
  have hv3 : v = 3 := by
    have : decide ((3 : Int) ∈ prefK 4 2 2 kc) = true := decide_eq_true kc_pref
    simp only [List.find?_cons, this, Option.some.injEq] at hv
    exact hv.symm
  subst hv3
  have HS6 := hid (HS5.out.kept0 b6)
  have HA6 := hid (HA5.out.trans b6)
  have HB6 := hid (keep0 b6 HB5.out)
  clear hn2 hv b6 p0 HS5 HA5 HB5
  have p0 := crow HB6.out 0 (.pointer (some ⟨G.S, 0, none⟩)) rfl
  try dsimp only
  go_wp2_with fail
  refine (wrote_ok HS6.out (by omega) e0 (L0 w6) (by unfold e0 maxLen; decide) (by unfold Dok In64 dotE e0; decide)).mono ?_
  intro r7 w7 hwp
  rw [wr0] at hwp
  obtain ⟨rfl, G', hs7, hwp7⟩ := hwp.2 rfl
  have HB7 := hid (keepB hwp7.ap HB6.out (by have := HMB.out; omega))
  have HA7 : Hid (Apart [] w w7) := hid (HA6.out.trans' hwp7.ap (fun y hy => .inr (by have := HMB.out; simp at hy; omega)))
  have hGS : G'.S = G.S := hwp7.S
  have HS7 : Hid (Ss w7 G' c0 4 2 2 [3, 0, 1, 2] (updF (fun _ => ([], 0)) kc ([(2, 1)], 0)) 1) := by
    have := hs7
    rw [wroteH1] at this
    exact hid this
  have HGS := hid hGS
  have hgt := got_c HS7.out
  rw [hGS] at hgt
  have HGT := hid hgt
  clear hgt hGS hwp hs7 hwp7 p0 HS6 HA6 HB6 HMB
  have p0 := crow HB7.out 0 (.pointer (some ⟨G.S, 0, none⟩)) rfl
  try dsimp only
  go_wp2_with fail
  refine HGT.out.mono ?_
  rintro _ w8 ⟨rfl, b8⟩
  have HS8 := hid (HS7.out.kept0 b8)
  have HA8 := hid (HA7.out.trans b8)
  have HB8 := hid (keep0 b8 HB7.out)
  have hup : updF (fun _ => (([] : List Dt), (0 : Int))) kc ([((2 : Int), (1 : Int))], 0) kc = ([(2, 1)], 0) := by simp [updF]
  have HHD := hid (heads_ok HS8.out (by omega) (s := kc) (by unfold kc maxLen; decide))
  have HTK : Hid (∀ W, Apart [] w8 W → Calls Tryz.prog 18 #[.pointer (some ⟨G.S, 0, none⟩), .string { data := #[99] }] W fun r w' => r = .returned (.int .i64 0) ∧ w' = W) := fun W a => by
    have := token_ok (HS8.out.kept0 a) (s := kc) (by unfold kc maxLen; decide)
    rw [hup, HGS.out] at this
    exact this
  rw [hup, HGS.out] at HHD
  have HCB : Hid (∀ W, Apart [] w8 W → W.cell? ⟨B, 0, none⟩ = some (.pointer (some ⟨G.S, 0, none⟩))) := fun W a => by exact crow (keep0 a HB8.out) 0 _ rfl
  clear b8 p0 HS7 HA7 HB7 HB8 HS8 hup HGS HGT
  have p0 := HCB.out w8 (Apart.refl _ _)
  try dsimp only
  go_wp2_with fail
  refine HHD.out.mono ?_
  rintro _ w9 ⟨s9, rfl, hn9⟩
  have hsn : s9.n = 1 := by have := hn9.own.1; rw [flD_len] at this; simp at this; omega
  rw [hsn]
  have HRD := hid hn9.rd
  have HA9 := hid hn9.ap
  obtain ⟨w10, hw10⟩ : ∃ V, V = w9.alloc (.cells #[.int .i64 2, .int .i64 1] 34) := ⟨_, rfl⟩
  obtain ⟨K, HXK⟩ : ∃ X, Hid (X = w9.heap.size) := ⟨_, hid rfl⟩
  have b10 : Apart [] w9 w10 := by rw [hw10]; exact (Apart.refl [] w9).alloc _
  have hK : w10.heap[K]? = some (.cells #[.int .i64 2, .int .i64 1] 34 (0, 0)) := by rw [hw10, HXK.out]; exact heap_alloc_new w9 _
  have HRK : Hid (Rd w10 (some ⟨K, 0, none⟩) (flD [((2 : Int), (1 : Int))])) := hid (fun _ => ⟨K, 0, rfl, lt_of_heap hK, fun j u hj => by
    rw [Nat.zero_add, cell_of_row _ _ _ _ _ _ hK]
    match j, hj with
    | 0, hj => simpa [rg.dt.flP] using hj
    | 1, hj => simpa [rg.dt.flP] using hj
    | j + 2, hj => simp [rg.dt.flP] at hj⟩)
  have HSM := hid (sameD_yes (c1 := s9.c) (c2 := 1) (HRD.out.kept0 b10) HRK.out rfl (by simp))
  have HA10 := hid (HA9.out.trans b10)
  clear hn9 hsn b10 hK p0 HHD
  try dsimp only
  go_wp2_with fail
  rw [← hw10, ← HXK.out]
  clear hw10 HXK
  refine HSM.out.mono ?_
  rintro _ w11 ⟨rfl, b11⟩
  have HA11 := hid (HA10.out.trans b11)
  have p0 := HCB.out w11 HA11.out
  clear b11 HSM HRK HRD
  try dsimp only
  go_wp2_with fail
  refine (HTK.out w11 HA11.out).mono ?_
  rintro _ xx ⟨rfl, hxx⟩
  rw [hxx]
  clear hxx xx
  have HFA := hid (HA8.out.trans HA11.out)
  try dsimp only
  go_wp2_with fail
  go_ret
  exact ⟨rfl, HFA.out⟩
end Go.Proofs.YtpddokbjjhbfgaaGreat.ds
