import Derived.Test.YtpddokbjjhbfgaaGreatChecked
import Derived.WalkKit
import Derived.ProofKit
import Derived.Maps.OwnSet
import Derived.Maps.RangeWalk
import Derived.DeepKeys4
import Derived.MapViews
import Derived.StringKeys
import Derived.Lib.TrailingZeros
import Derived.OpenShut
import Derived.Deep.QuietTactic
import Derived.BigQuiet
import Derived.BigRegion
import Derived.Laws.CopyOwn
import Derived.Laws.Bits64b
import Derived.Laws.MathBits
import Derived.Laws.ShiftsVarLaws
import Derived.WalkSmall
import Derived.Laws.ResultCell
import Derived.Lib.BitFns
import Derived.Laws.StructEq
import Derived.Deep.RegionHeld
import Derived.ArgAppend
import Derived.Deep.RegionLaw
import Derived.Deep.DeepAppendRoom
import Derived.Sort.WalkA
import Derived.Laws.Strings
import Derived.Deep.CutBlock
import Derived.Great.BuildSlice
import Derived.Laws.BytesString
import Derived.Laws.AppendOwnNone
import Derived.Lib.Overlaps
import Derived.Lib.AppendZerosOnto
import Derived.Laws.NewBlocks
import Derived.Laws.Externs
import Derived.Laws.IdiomCopy
import Derived.RangeFuncNested
import Derived.RangeFuncBound
import Derived.RangeFuncCalls
import Derived.RangeFuncLeaves
import Derived.Shelf.Abstract
import Derived.Shelf.RegionOpen
import Derived.OwnWalkIn
import Derived.TacticsInMore
import Derived.LoopNIn
import Derived.LoopIn
import Derived.Deep.CutRange
import Derived.Deep.OwnRows
import Derived.Lib.Walk
import Derived.Lib.SliceRun
import GoSem.Claim
import GoSem.ClaimJoined
import GoSem.ClaimMapViews
import Derived.JoinedTies
import Derived.KernelRfl
import Derived.Lib.LaidTab
import Derived.JoinedCond
import Derived.ShutString
import Derived.ChangeOld
import Derived.Below
import Derived.Carry
import Derived.ChangeSlices
import Derived.Deep.Slices
import Derived.Deep.DeepHandedRow
import Derived.RowKit
import Derived.ChangeShapes
import Derived.SizedLaws
import Derived.ChangeMaps5
import Derived.OrdersHeld
import Derived.Lib.AppendStr
import Derived.Lib.ConvBytes
import Derived.Deep.RegionHeld3
import Derived.Deep.MidRow
import Derived.Laws.BitsAllLaws
import Derived.Sort.Grow
import Derived.Shelf.SlSortCmp.WholeK
import Derived.Shelf.Lay
import Derived.Ground.SlsfProg
import Derived.Sort.LotA
import Derived.Sort.MapsRangeIn
import Derived.RangeFuncSeq
import Derived.RangeFuncKeeps
import Derived.Maps.AppendAt
import Derived.OwnWalk
import Derived.Test.YtpddokbjjhbfgaaGreatRows
import Derived.Test.YtpddokbjjhbfgaaGreatU21
namespace Go.Proofs.YtpddokbjjhbfgaaGreat.ds
open Go.ChangeShapes Go.WideShapes Go.ChangeAt Go.RowKit Go.Sort
set_option linter.unusedVariables false
set_option linter.unusedSimpArgs false

theorem appI {w W : World} {s : Sl} {l : List Int} (h : Nw w W 3 1 s (iV l)) (v : Int) (hl : l.length ≤ 4000000) :
    ∃ s' W', (Builtin.append_ #[54, 54] 54 #[.slice s.p s.n s.c, .slice (some ⟨W.heap.size, 0, none⟩) 1 1]).run Tryz.prog (W.alloc (Obj.cells #[.int .i64 v] 3)) = .ok (.slice (Sl.p s') (Sl.n s') (Sl.c s')) W' ∧ Nw w W' 3 1 s' (iV (l ++ [v])) ∧ Apart s.v.ownBlock.toList W W' := by
  obtain ⟨i0, hi, hz0, hz1, hz2⟩ := info_parts info3i
  have hn : s.n = l.length := by have := h.own.1; rw [iV_len] at this; omega
  obtain ⟨s', W', hrun, r1, r2, r3, k, r4, -, r6⟩ := run_appM 54 54 3 i0 _ 1 8 Tryz.underlying54 hi hz0 hz1 hz2 rfl (by decide) h 1 (iV [v]) (by decide) (by rw [iV_len]; rfl) (by intro u hu; exact iV_one hu) (by unfold maxLen; omega) (by omega)
  exact ⟨s', W', hrun, by have e : iV (l ++ [v]) = iV l ++ iV [v] := by simp [iV]
                          rw [e]; exact r1, r3⟩
/-- the liking of a new session -/
def likeN (nn j k : Nat) : List Nat := (List.range k).map (fun i => (j + i) % nn)
def likeL (nn j k : Nat) : List Int := (likeN nn j k).map (fun x : Nat => (x : Int))
theorem likeL_succ (nn j k : Nat) : likeL nn j (k + 1) = likeL nn j k ++ [(((j + k) % nn : Nat) : Int)] := by simp [likeL, likeN, List.range_succ]
theorem likeN_ok : ∀ nn < 9, ∀ j < nn, (likeN nn j nn).Nodup ∧ (∀ v < nn, v ∈ likeN nn j nn) := by decide +kernel
theorem likeL_mem {nn j : Nat} (hn : nn < 9) (hj : j < nn) (v : Int) : v ∈ likeL nn j nn ↔ 0 ≤ v ∧ v < nn := by
  unfold likeL
  rw [List.mem_map]
  constructor
  · rintro ⟨x, hx, rfl⟩
    unfold likeN at hx
    rw [List.mem_map] at hx
    obtain ⟨i, _, rfl⟩ := hx
    have := Nat.mod_lt (j + i) (show 0 < nn by omega)
    omega
  · rintro ⟨h0, h1⟩
    exact ⟨v.toNat, (likeN_ok nn hn j hj).2 _ (by omega), by omega⟩
theorem likeL_nodup {nn j : Nat} (hn : nn < 9) (hj : j < nn) : (likeL nn j nn).Nodup := by
  unfold likeL
  exact List.Pairwise.map _ (fun a b h e => h (by omega)) (likeN_ok nn hn j hj).1
/-- the session being made -/
structure Mk (w4 w6 wt : World) (c : Cf) (S R M : Nat) (s : Sl) (l : List Int) : Prop where
  blk : wt.heap[S]? = some (.cells #[.int .i64 c.n, .int .i64 c.p, .int .i64 c.r, .int .i64 c.s, .int .i64 c.g, .int .i64 c.c, .int .i64 c.k, .int .i64 c.h, .int .i64 c.b, .pointer (some ⟨R, 0, none⟩), .slice s.p s.n s.c, .map (some M)] 81 (0, 0))
  row : Nw w4 wt 3 1 s (iV l)
  ap : Apart [S] w6 wt
def NewP (w : World) (c : Cf) (nn rr pp j : Nat) (r : Ending) (w' : World) : Prop := ∃ G : Gs, r = .returned (.tuple #[.pointer (some ⟨G.S, 0, none⟩), .int .i64 0]) ∧ Ss w' G c nn rr pp (likeL nn j nn) (fun _ => ([], 0)) 0 ∧ Apart [] w w' ∧ ∀ k, G.has k → w.heap.size ≤ k
set_option maxHeartbeats 16000000 in
set_option maxRecDepth 100000 in
theorem new_ok (w : World) (c : Cf) (hc : CR c = true) (nn rr pp j : Nat) (hcn : c.n = nn) (hcr : c.r = rr) (hcp : c.p = pp) (hj : j < nn) : Calls Tryz.prog 11 #[.agg c.a, .int .i64 (j : Nat)] w fun r w' => NewP w c nn rr pp j r w' := by
  have hcr2 := hc
  unfold CR at hcr2
  simp only [Bool.and_eq_true, decide_eq_true_eq] at hcr2
  have HB : Hid (1 ≤ nn ∧ nn ≤ 8 ∧ 1 ≤ rr ∧ rr ≤ 16 ∧ 1 ≤ pp ∧ pp ≤ nn) := by unfold Hid; omega
  have HEQ := hid (And.intro hcn (And.intro hcr hcp))
  obtain ⟨C, HXC⟩ : ∃ X, Hid (X = w.heap.size) := ⟨_, rfl⟩
  obtain ⟨w1, hw1⟩ : ∃ V, V = w.alloc (.cells c.a 27) := ⟨_, rfl⟩
  have a1 : Apart [] w w1 := by rw [hw1]; exact (Apart.refl [] w).alloc _
  have hC1 : w1.heap[C]? = some (.cells c.a 27 (0, 0)) := by rw [hw1, HXC.out]; exact heap_alloc_new w _
  have HC1 := hid hC1
  have HA1 := hid a1
  have HRT := hid (right30 w1 c)
  rw [hc] at HRT
  have hj0 : ¬ ((j : Nat) : Int) < 0 := by omega
  clear hcr2 a1 hC1 hc hcr hcp
  unfold Cf.a at hw1 HC1 HRT ⊢
  rw [hcn] at hw1 HC1 HRT ⊢
  have hj1 : ¬ ((j : Nat) : Int) ≥ (nn : Int) := by omega
  clear hcn
  go_enter Tryz.func11, Tryz.ntmps11
  go_upto_region 1 with fail
  rw [← hw1, ← HXC.out]
  clear hw1 HXC
  have g0 := crow HC1.out 0 (.int .i64 (nn : Nat)) rfl
  have g1 := crow HC1.out 1 (.int .i64 c.p) rfl
  have g2 := crow HC1.out 2 (.int .i64 c.r) rfl
  have g3 := crow HC1.out 3 (.int .i64 c.s) rfl
  have g4 := crow HC1.out 4 (.int .i64 c.g) rfl
  have g5 := crow HC1.out 5 (.int .i64 c.c) rfl
  have g6 := crow HC1.out 6 (.int .i64 c.k) rfl
  have g7 := crow HC1.out 7 (.int .i64 c.h) rfl
  have g8 := crow HC1.out 8 (.int .i64 c.b) rfl
  go_wp2_with fail
  refine HRT.out.mono ?_
  rintro _ w2 ⟨rfl, a2⟩
  have HC2 := hid (keep0 a2 HC1.out)
  have HA2 := hid (HA1.out.trans a2)
  clear a2 g0 g1 g2 g3 g4 g5 g6 g7 g8 HRT HC1 HA1
  have g0 := crow HC2.out 0 (.int .i64 (nn : Nat)) rfl
  have g2 := crow HC2.out 2 (.int .i64 (rr : Nat)) (by rw [← HEQ.out.2.1]; rfl)
  try dsimp only
  go_wp2_with fail
  refine (rg.new_ok nn rr HB.out.1 HB.out.2.1 HB.out.2.2.1 HB.out.2.2.2.1 w2).mono ?_
  rintro _ w3 ⟨⟨rfl, hrg⟩, a3⟩
  obtain ⟨R, HXR⟩ : ∃ X, Hid (X = w2.heap.size) := ⟨_, rfl⟩
  rw [← HXR.out] at hrg ⊢
  have HRG := hid hrg
  have HC3 := hid (keep0 (ra a3) HC2.out)
  have HA3 := hid (HA2.out.trans (ra a3))
  have HRn : Hid (w.heap.size ≤ R) := by unfold Hid; rw [HXR.out]; exact HA2.out.size
  clear a3 hrg g0 g2 HC2 HA2 HXR
  obtain ⟨M, HXM⟩ : ∃ X, Hid (X = w3.heap.size) := ⟨_, rfl⟩
  obtain ⟨w4, hw4⟩ : ∃ V, V = w3.alloc (.map #[] 0) := ⟨_, rfl⟩
  obtain ⟨S, HXS⟩ : ∃ X, Hid (X = w4.heap.size) := ⟨_, rfl⟩
  obtain ⟨w5, hw5⟩ : ∃ V, V = w4.alloc (.cells #[.int .i64 (nn : Nat), .int .i64 c.p, .int .i64 c.r, .int .i64 c.s, .int .i64 c.g, .int .i64 c.c, .int .i64 c.k, .int .i64 c.h, .int .i64 c.b, .pointer (some ⟨R, 0, none⟩), .slice none 0 0, .map (some M)] 81) := ⟨_, rfl⟩
  have a4 : Apart [] w3 w4 := by rw [hw4]; exact (Apart.refl [] w3).alloc _
  have a5 : Apart [] w4 w5 := by rw [hw5]; exact (Apart.refl [] w4).alloc _
  have hmk : (Instr.makeMap 79 none).run Tryz.prog w3 = .ok (.map (some M)) w4 := by rw [HXM.out, hw4]; rfl
  have HMP : Hid (MapK w5 M (fun _ => none) 0) := by
    have h0 : MapK w4 M (fun _ => none) 0 := by rw [hw4, HXM.out]; exact MapK.made w3
    exact hid (h0.kept (a5.block M h0.lt (by simp)))
  have hS5 : w5.heap[S]? = some (.cells #[.int .i64 (nn : Nat), .int .i64 c.p, .int .i64 c.r, .int .i64 c.s, .int .i64 c.g, .int .i64 c.c, .int .i64 c.k, .int .i64 c.h, .int .i64 c.b, .pointer (some ⟨R, 0, none⟩), .slice none 0 0, .map (some M)] 81 (0, 0)) := by rw [hw5, HXS.out]; exact heap_alloc_new w4 _
  have HC5 := hid (keep0 (a4.trans a5) HC3.out)
  have HR5 := hid (HRG.out.kept0 (ar (a4.trans a5)))
  have HA5 := hid (HA3.out.trans (a4.trans a5))
  have HMK : Hid (Mk w4 w5 w5 c S R M slz (likeL nn j 0)) := hid ⟨by rw [HEQ.out.1]; exact hS5, Nw.none0 a5 _ _, Apart.refl _ _⟩
  have HNE : Hid (C ≠ S ∧ R ≠ S ∧ M ≠ S ∧ w.heap.size ≤ M ∧ w.heap.size ≤ S ∧ w4.heap.size = S ∧ w5.heap.size = S + 1) := by
    have h1 := lt_of_heap HC3.out
    have h2 := HRG.out.lt
    have h3 := a4.size
    have h4 : w4.heap.size = M + 1 := by rw [hw4, HXM.out]; exact Array.size_push _
    have h5 := HA3.out.size
    have h6 := lt_of_heap hS5
    have h7 := HXS.out
    have h8 := HXM.out
    have h9 : w5.heap.size = w4.heap.size + 1 := by rw [hw5]; exact Array.size_push _
    exact hid ⟨by omega, by omega, by omega, by omega, by omega, by omega, by omega⟩
  have g0 := crow HC3.out 0 (.int .i64 (nn : Nat)) rfl
  have g1 := crow HC3.out 1 (.int .i64 c.p) rfl
  have g2 := crow HC3.out 2 (.int .i64 c.r) rfl
  have g3 := crow HC3.out 3 (.int .i64 c.s) rfl
  have g4 := crow HC3.out 4 (.int .i64 c.g) rfl
  have g5 := crow HC3.out 5 (.int .i64 c.c) rfl
  have g6 := crow HC3.out 6 (.int .i64 c.k) rfl
  have g7 := crow HC3.out 7 (.int .i64 c.h) rfl
  have g8 := crow HC3.out 8 (.int .i64 c.b) rfl
  clear a4 hS5 hw4
  try dsimp only
  go_upto_region 7 with fail
  rw [← hw5, ← HXS.out]
  clear hw5 HXS HXM hmk a5 g0 g1 g2 g3 g4 g5 g6 g7 g8
  have g0 := crow HC5.out 0 (.int .i64 (nn : Nat)) rfl
  go_wp2_with fail
  clear g0
  have d1 : decide (nn ≤ j) = false := decide_eq_false (by omega)
  have d2 : decide (((j : Nat) : Int) < 0) = false := decide_eq_false (by omega)
  try simp only [d1, d2, Bool.or_false]
  clear d1 d2
  go_loopw [9, 36] (fun _ a wt => ∃ (i : Nat) (s : Sl), a = .int .i64 (i : Nat) ∧ i ≤ nn ∧ Hid (Mk w4 w5 wt c S R M s (likeL nn j i))) (fun _ a _ => nn - (intOf a).toNat)
  case atStart => exact ⟨0, slz, rfl, Nat.zero_le _, HMK⟩
  case round =>
    obtain ⟨i, s, rfl, hile, HI⟩ := hrel
    clear HMK
    by_cases hlt : i < nn
    · have hlti : ((i : Nat) : Int) < (nn : Int) := by omega
      have hn8 := HB.out.2.1
      go_upto_region 10 with fail
      have HCW : Hid (∀ W, Apart [S] w5 W → W.cell? ⟨C, 0, none⟩ = some (.int .i64 (nn : Nat))) := fun W a => crow (keepB a HC5.out HNE.out.1) 0 _ rfl
      have hAd : Apart [S] w5 wr.drew := HI.out.ap.trans ((Apart.refl [S] wr).drew)
      refine wp_region_held_drew (S := fun W => Apart [S] w5 W) (by kernel_rfl) hAd (fun hHeld => ?_)
      have hAw : Apart [] wr wr.drew := (Apart.refl [] wr).drew
      have HD : Hid (Mk w4 w5 wr.drew c S R M s (likeL nn j i)) := hid ⟨keep0 hAw HI.out.blk, HI.out.row.kept hAw, HI.out.ap.trans (hAw.mono (by simp))⟩
      generalize wr.drew = wd at *
      clear hAd hAw
      obtain ⟨t, Ht⟩ : ∃ t : Int, Hid (t = (((j + i) % nn : Nat) : Int)) := ⟨_, rfl⟩
      have hadd : IntKind.i64.wrap (((j : Nat) : Int) + ((i : Nat) : Int)) = ((j + i : Nat) : Int) := by rw [IntKind.wrap_i64]; omega
      have hrem : (((j : Nat) : Int) + ((i : Nat) : Int)).tmod (nn : Int) = t := by rw [Ht.out, Int.tmod_eq_emod_of_nonneg (by omega), Int.natCast_emod, Int.natCast_add]
      have HAD := hid hadd
      clear hadd
      refine tk 0 39 (.pointer (some ⟨S, 0, none⟩)) rfl ?_ ?_
      · intro W hSW; go_simp
      simp only [Act.put, List.setIfInBounds_toArray, List.set_cons_zero, List.set_cons_succ]
      refine tk 1 40 (.pointer (some ⟨S, 0, none⟩)) rfl ?_ ?_
      · intro W hSW; go_simp
      simp only [Act.put, List.setIfInBounds_toArray, List.set_cons_zero, List.set_cons_succ]
      refine tk 2 41 (.pointer (some ⟨S, 0, none⟩)) rfl ?_ ?_
      · intro W hSW; go_simp
      simp only [Act.put, List.setIfInBounds_toArray, List.set_cons_zero, List.set_cons_succ]
      refine tk 3 42 (.pointer (some ⟨S, 10, none⟩)) rfl ?_ ?_
      · intro W hSW; go_simp
      simp only [Act.put, List.setIfInBounds_toArray, List.set_cons_zero, List.set_cons_succ]
      refine tk 5 44 (.int .i64 (j : Nat)) rfl ?_ ?_
      · intro W hSW; go_simp
      simp only [Act.put, List.setIfInBounds_toArray, List.set_cons_zero, List.set_cons_succ]
      refine tk 6 45 (.int .i64 (i : Nat)) rfl ?_ ?_
      · intro W hSW; go_simp
      simp only [Act.put, List.setIfInBounds_toArray, List.set_cons_zero, List.set_cons_succ]
      refine tk 7 46 (.int .i64 ((j + i : Nat) : Int)) rfl ?_ ?_
      · intro W hSW; (have hadd := HAD.out); go_simp
      simp only [Act.put, List.setIfInBounds_toArray, List.set_cons_zero, List.set_cons_succ]
      refine tk 8 47 (.pointer (some ⟨C, 0, none⟩)) rfl ?_ ?_
      · intro W hSW; go_simp
      simp only [Act.put, List.setIfInBounds_toArray, List.set_cons_zero, List.set_cons_succ]
      refine tk 9 48 (.int .i64 (nn : Nat)) rfl ?_ ?_
      · intro W hSW; have g0 := HCW.out W hSW; go_simp
      simp only [Act.put, List.setIfInBounds_toArray, List.set_cons_zero, List.set_cons_succ]
      refine tk 10 49 (.int .i64 t) rfl ?_ ?_
      · intro W hSW; (have hnn0 : ¬ nn = 0 := by omega); go_simp
      simp only [Act.put, List.setIfInBounds_toArray, List.set_cons_zero, List.set_cons_succ]
      clear hrem
      obtain ⟨s', w7, hrun, hn7, hap7⟩ := appI HD.out.row t (by simp [likeL, likeN]; omega)
      have HRUN := hid hrun
      have hown : ∀ k, s.v.ownBlock = some k → k ≠ S := fun k hk e => by
        obtain ⟨cur, hc⟩ := own_typ HD.out.row.own hk
        rw [e, HD.out.blk] at hc
        simp at hc
      have hS7 := (hap7.block S (lt_of_heap HD.out.blk) (fun hm => hown S (by simpa using hm) rfl)).trans HD.out.blk
      have hA7 : Apart [S] w5 w7 := HD.out.ap.trans' hap7 (fun y hy => by
        have hy' : s.v.ownBlock = some y := by simpa using hy
        have h1 := HD.out.row.new y hy'
        have h2 := hown y hy'
        have h3 := HNE.out.2.2.2.2.2
        exact .inr (by omega))
      have z7 := crow hS7 10 (.slice s.p s.n s.c) rfl
      have f7 := frozen_of_row _ _ 10 _ _ hS7
      obtain ⟨w8, hw8⟩ : ∃ V, V = w7.setCell ⟨S, 10, none⟩ (.slice s'.p s'.n s'.c) := ⟨_, rfl⟩
      have a8 : Apart [S] w7 w8 := by rw [hw8]; exact (Apart.refl _ _).setCell (.inl (by simp)) _
      have hS8 : w8.heap[S]? = some (.cells #[.int .i64 c.n, .int .i64 c.p, .int .i64 c.r, .int .i64 c.s, .int .i64 c.g, .int .i64 c.c, .int .i64 c.k, .int .i64 c.h, .int .i64 c.b, .pointer (some ⟨R, 0, none⟩), .slice s'.p s'.n s'.c, .map (some M)] 81 (0, 0)) := by rw [hw8]; have := heap_setCell_same w7 S 10 _ 81 (.slice s'.p s'.n s'.c) hS7; simpa using this
      have hown' : ∀ k, s'.v.ownBlock = some k → k ≠ S := fun k hk e => by
        obtain ⟨cur, hc⟩ := own_typ hn7.own hk
        rw [e, hS7] at hc
        simp at hc
      have HE : Hid (Mk w4 w5 w8 c S R M s' (likeL nn j (i + 1))) := hid ⟨hS8, by rw [likeL_succ, ← Ht.out]; exact ⟨own_apart hn7.own a8 (fun k hk hm => hown' k hk (by simpa using hm)), hn7.new, hn7.ap.trans' a8 (fun y hy => .inr (by simp at hy; have := HNE.out.2.2.2.2.2; omega))⟩, hA7.trans a8⟩
      have aL : Apart [] wd (wd.alloc (Obj.cells #[.int .i64 t] 3)) := (Apart.refl [] wd).alloc _
      have z1 := crow HD.out.blk 10 (.slice s.p s.n s.c) rfl
      have z2 := crow (keep0 aL HD.out.blk) 10 (.slice s.p s.n s.c) rfl
      have hAL : Apart [S] w5 (wd.alloc (Obj.cells #[.int .i64 t] 3)) := HD.out.ap.trans (aL.mono (by simp))
      have hA8 := hA7.trans a8
      clear hrun hn7 hap7 hown hown' hS7 a8 hS8 aL
      refine wpAnyH_ready (rs := [4, 11]) (by kernel_rfl) (by simp) ?_
      refine AllReadyH.cons rfl (fun KK hKK => ?_) (AllReadyH.cons rfl (fun KK hKK => ?_) AllReadyH.nil)
      · skip
        go_simp
        refine hKK.out _ _ hHeld (fun hHeld => ?_)
        clear hKK KK
        try simp only [Act.put, List.setIfInBounds_toArray, List.set_cons_zero, List.set_cons_succ]
        refine wpAnyH_ready (rs := [11]) (by kernel_rfl) (by simp) ?_
        refine AllReadyH.cons rfl (fun KK hKK => ?_) AllReadyH.nil
        go_simp
        refine hKK.out _ _ hAL (fun hHeld => ?_)
        clear hKK KK
        try simp only [Act.put, List.setIfInBounds_toArray, List.set_cons_zero, List.set_cons_succ]
        refine wpAnyH_ready (rs := [12]) (by kernel_rfl) (by simp) ?_
        refine AllReadyH.cons rfl (fun KK hKK => ?_) AllReadyH.nil
        refine step_app2 (o := ⟨some 51, _, _, _, _, _⟩) rfl (.tmp 43) (.tmp 50) 54 54 rfl _ _ rfl rfl _ _ HRUN.out ?_
        refine hKK.out _ _ hA7 (fun hHeld => ?_)
        clear hKK KK
        try simp only [Act.put, List.setIfInBounds_toArray, List.set_cons_zero, List.set_cons_succ]
        refine tk 13 52 (.pointer (some ⟨S, 0, none⟩)) rfl ?_ ?_
        · intro W hSW; go_simp
        simp only [Act.put, List.setIfInBounds_toArray, List.set_cons_zero, List.set_cons_succ]
        refine tk 14 53 (.pointer (some ⟨S, 10, none⟩)) rfl ?_ ?_
        · intro W hSW; go_simp
        simp only [Act.put, List.setIfInBounds_toArray, List.set_cons_zero, List.set_cons_succ]
        refine wpAnyH_ready (rs := [15]) (by kernel_rfl) (by simp) ?_
        refine AllReadyH.cons rfl (fun KK hKK => ?_) AllReadyH.nil
        go_simp
        rw [← hw8]
        clear hw8
        refine hKK.out _ _ hA8 (fun hHeld => ?_)
        clear hKK KK
        try simp only [Act.put, List.setIfInBounds_toArray, List.set_cons_zero, List.set_cons_succ]
        refine wpAnyH_done (by kernel_rfl) ?_ _
        clear hHeld
        go_wp2_with fail
        go_roundw
        case rel => first | exact ⟨i + 1, s', by go_num, by omega, HE⟩ | (refine ⟨_, _, _, _, _, _, _, _, _, _, _, _, _, _, _, _, _, _, _, _, ⟨i + 1, s', ?_, by omega, HE⟩, rfl⟩; go_num) | (set_option pp.deepTerms true in set_option pp.maxSteps 1000000 in trace_state)
        case measure => simp [intOf]; omega
      · skip
        go_simp
        refine hKK.out _ _ hAL (fun hHeld => ?_)
        clear hKK KK
        try simp only [Act.put, List.setIfInBounds_toArray, List.set_cons_zero, List.set_cons_succ]
        refine wpAnyH_ready (rs := [4]) (by kernel_rfl) (by simp) ?_
        refine AllReadyH.cons rfl (fun KK hKK => ?_) AllReadyH.nil
        go_simp
        refine hKK.out _ _ hAL (fun hHeld => ?_)
        clear hKK KK
        try simp only [Act.put, List.setIfInBounds_toArray, List.set_cons_zero, List.set_cons_succ]
        refine wpAnyH_ready (rs := [12]) (by kernel_rfl) (by simp) ?_
        refine AllReadyH.cons rfl (fun KK hKK => ?_) AllReadyH.nil
        refine step_app2 (o := ⟨some 51, _, _, _, _, _⟩) rfl (.tmp 43) (.tmp 50) 54 54 rfl _ _ rfl rfl _ _ HRUN.out ?_
        refine hKK.out _ _ hA7 (fun hHeld => ?_)
        clear hKK KK
        try simp only [Act.put, List.setIfInBounds_toArray, List.set_cons_zero, List.set_cons_succ]
        refine tk 13 52 (.pointer (some ⟨S, 0, none⟩)) rfl ?_ ?_
        · intro W hSW; go_simp
        simp only [Act.put, List.setIfInBounds_toArray, List.set_cons_zero, List.set_cons_succ]
        refine tk 14 53 (.pointer (some ⟨S, 10, none⟩)) rfl ?_ ?_
        · intro W hSW; go_simp
        simp only [Act.put, List.setIfInBounds_toArray, List.set_cons_zero, List.set_cons_succ]
        refine wpAnyH_ready (rs := [15]) (by kernel_rfl) (by simp) ?_
        refine AllReadyH.cons rfl (fun KK hKK => ?_) AllReadyH.nil
        go_simp
        rw [← hw8]
        clear hw8
        refine hKK.out _ _ hA8 (fun hHeld => ?_)
        clear hKK KK
        try simp only [Act.put, List.setIfInBounds_toArray, List.set_cons_zero, List.set_cons_succ]
        refine wpAnyH_done (by kernel_rfl) ?_ _
        clear hHeld
        go_wp2_with fail
        go_roundw
        case rel => first | exact ⟨i + 1, s', by go_num, by omega, HE⟩ | (refine ⟨_, _, _, _, _, _, _, _, _, _, _, _, _, _, _, _, _, _, _, _, ⟨i + 1, s', ?_, by omega, HE⟩, rfl⟩; go_num) | (set_option pp.deepTerms true in set_option pp.maxSteps 1000000 in trace_state)
        case measure => simp [intOf]; omega
    · have hin : i = nn := by omega
      have hlti : ¬ ((i : Nat) : Int) < (nn : Int) := by omega
      have HF : Hid (Mk w4 w5 wr c S R M s (likeL nn j nn)) := by rw [← hin]; rw [hin] at HI ⊢; exact HI
      have hll : (likeL nn j nn).length = nn := by simp [likeL, likeN]
      have hn1 := HB.out.1
      have hn8 := HB.out.2.1
      obtain ⟨hxl, ⟨hv, hz⟩ | ⟨g, cap, cur, hv, -, hr, hcp, hcm, hcs, htk⟩⟩ := id HF.out.row.own
      · exfalso
        rw [iV_len, hll] at hxl
        unfold Sl.v at hv
        simp only [Value.slice.injEq] at hv
        omega
      have hsn : s.n = nn := by rw [iV_len, hll] at hxl; omega
      unfold Sl.v at hv
      simp only [Value.slice.injEq] at hv
      obtain ⟨hp1, -, hp3⟩ := hv
      have hgS : g ≠ S := fun e => by rw [e, HF.out.blk] at hr; simp at hr
      have hgw : w4.heap.size ≤ g := HF.out.row.new g (by unfold Sl.v; rw [hp1]; rfl)
      have hne := HNE.out
      have hRlt := HR5.out.lt
      have hMlt := HMP.out.lt
      have hwsz := HA5.out.size
      have HSS : Hid (Ss wr ⟨S, R, g, M, cap, fun _ => none⟩ c nn rr pp (likeL nn j nn) (fun _ => ([], 0)) 0) := by
        refine hid { cn := HEQ.out.1, cr := HEQ.out.2.1, cp := HEQ.out.2.2, p1 := HB.out.2.2.2.2.1, pn := HB.out.2.2.2.2.2, blk := ?_, ring := Rg_same HR5.out (HF.out.ap.block R hRlt (by simp; exact hne.2.1)), rs := ⟨hne.2.1, by show R ≠ g; omega⟩, li := ?_, ll := hll, lm := likeL_mem (by omega) hj, ld := likeL_nodup (by omega) hj, mp := HMP.out.kept (HF.out.ap.block M hMlt (by simp; exact hne.2.2.1)), hd := fun t ht => ⟨rfl, List.Pairwise.nil, Nat.le_refl _⟩ }
        · have := HF.out.blk
          rw [hp1, hsn, hp3] at this
          exact this
        · refine Lk.mk' hr (by rw [hll]; show nn ≤ cap; omega) hcm (by simpa using hcs) ?_
          rw [hll]
          rw [hsn] at htk
          simpa using htk
      have HAP : Hid (Apart [] w wr) := hid (HA5.out.trans' HF.out.ap (fun y hy => .inr (by simp at hy; omega)))
      have HHS : Hid (∀ k, Gs.has ⟨S, R, g, M, cap, fun _ => none⟩ k → w.heap.size ≤ k) := hid (fun k hk => by
        have h1 := HRn.out
        rcases hk with e | e | e | e | ⟨t, x, -, hx, -⟩
        · rw [e]; exact hne.2.2.2.2.1
        · rw [e]; exact h1
        · rw [e]; show w.heap.size ≤ g; omega
        · rw [e]; exact hne.2.2.2.1
        · cases hx)
      clear hxl hr htk hcs hcm hcp hp1 hp3 hgS hgw hne hRlt hMlt hwsz hsn
      go_wp2_with fail
      go_ret2
      unfold NewP
      exact ⟨⟨S, R, g, M, cap, fun _ => none⟩, rfl, HSS.out, HAP.out, HHS.out⟩
end Go.Proofs.YtpddokbjjhbfgaaGreat.ds
