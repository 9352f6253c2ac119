import Derived.Test.YtpddokbjjhbfgaaGreatChecked
import Derived.WalkKit
import Derived.ProofKit
import Derived.Maps.OwnSet
import Derived.Maps.RangeWalk
import Derived.DeepKeys4
import Derived.MapViews
import Derived.StringKeys
import Derived.Lib.TrailingZeros
import Derived.OpenShut
import Derived.Deep.QuietTactic
import Derived.BigQuiet
import Derived.BigRegion
import Derived.Laws.CopyOwn
import Derived.Laws.Bits64b
import Derived.Laws.MathBits
import Derived.Laws.ShiftsVarLaws
import Derived.WalkSmall
import Derived.Laws.ResultCell
import Derived.Lib.BitFns
import Derived.Laws.StructEq
import Derived.Deep.RegionHeld
import Derived.ArgAppend
import Derived.Deep.RegionLaw
import Derived.Deep.DeepAppendRoom
import Derived.Sort.WalkA
import Derived.Laws.Strings
import Derived.Deep.CutBlock
import Derived.Great.BuildSlice
import Derived.Laws.BytesString
import Derived.Laws.AppendOwnNone
import Derived.Lib.Overlaps
import Derived.Lib.AppendZerosOnto
import Derived.Laws.NewBlocks
import Derived.Laws.Externs
import Derived.Laws.IdiomCopy
import Derived.RangeFuncNested
import Derived.RangeFuncBound
import Derived.RangeFuncCalls
import Derived.RangeFuncLeaves
import Derived.Shelf.Abstract
import Derived.Shelf.RegionOpen
import Derived.OwnWalkIn
import Derived.TacticsInMore
import Derived.LoopNIn
import Derived.LoopIn
import Derived.Deep.CutRange
import Derived.Deep.OwnRows
import Derived.Lib.Walk
import Derived.Lib.SliceRun
import GoSem.Claim
import GoSem.ClaimJoined
import GoSem.ClaimMapViews
import Derived.JoinedTies
import Derived.KernelRfl
import Derived.Lib.LaidTab
import Derived.JoinedCond
import Derived.ShutString
import Derived.ChangeOld
import Derived.Below
import Derived.Carry
import Derived.ChangeSlices
import Derived.Deep.Slices
import Derived.Deep.DeepHandedRow
import Derived.RowKit
import Derived.ChangeShapes
import Derived.SizedLaws
import Derived.ChangeMaps5
import Derived.OrdersHeld
import Derived.Lib.AppendStr
import Derived.Lib.ConvBytes
import Derived.Deep.RegionHeld3
import Derived.Deep.MidRow
import Derived.Laws.BitsAllLaws
import Derived.Sort.Grow
import Derived.Shelf.SlSortCmp.WholeK
import Derived.Shelf.Lay
import Derived.Ground.SlsfProg
import Derived.Sort.LotA
import Derived.Sort.MapsRangeIn
import Derived.RangeFuncSeq
import Derived.RangeFuncKeeps
import Derived.Maps.AppendAt
import Derived.OwnWalk
import Derived.Test.YtpddokbjjhbfgaaGreatRows
import Derived.Test.YtpddokbjjhbfgaaGreatU16
import Derived.Test.YtpddokbjjhbfgaaGreatU19
namespace Go.Proofs.YtpddokbjjhbfgaaGreat.ds
open Go.ChangeShapes Go.WideShapes Go.ChangeAt Go.RowKit Go.Sort
set_option linter.unusedVariables false
set_option linter.unusedSimpArgs false
/-- an operation that is not wanted, of whatever kind -/
theorem wpAnyH_pass {P : Program} {ops : Array Oper} {Q : Exit → Act → World → Prop} {md : Region.Mode} {S : World → Prop} {fuel : Nat} {listed : Array Bool} {a : Act} {w : World} (i : Nat) {o : Oper} (hr : Region.ready md ops listed = [i]) (ho : ops[i]? = some o) (hw : Region.wanted o (yielded ops a.tmps) = false) (hS : S w) (h : wpAnyH P md ops Q S fuel (listed.setIfInBounds i true) (a.put o.dst undef) w) : wpAnyH P md ops Q S (fuel + 1) listed a w :=
  wpAnyH_ready hr (by simp) (AllReadyH.cons ho (fun K' hK => by rw [if_neg (by rw [hw]; simp)]; exact hK.out _ _ hS (fun _ => h)) AllReadyH.nil)
end Go.Proofs.YtpddokbjjhbfgaaGreat.ds
namespace Go.Proofs.YtpddokbjjhbfgaaGreat.ds
open Go.ChangeShapes Go.WideShapes Go.ChangeAt Go.RowKit Go.Sort
set_option linter.unusedVariables false
set_option linter.unusedSimpArgs false

/-- right.Key -/
def keyR (k : ByteArray) : Bool := decide (1 ≤ k.size ∧ k.size ≤ 16)
set_option maxRecDepth 100000 in
theorem rkey_ok (w : World) (k : ByteArray) (hk : k.size ≤ 9223372036854775807) : Calls Tryz.prog 33 #[.string k] w fun r w' => r = .returned (.bool (keyR k)) ∧ w' = w := by
  unfold keyR
  by_cases h1 : 1 ≤ k.size
  · by_cases h2 : k.size ≤ 16
    · have i1 : ((k.size : Nat) : Int) ≥ 1 := by omega
      have i2 : ((k.size : Nat) : Int) ≤ 16 := by omega
      go_enter Tryz.func33, Tryz.ntmps33
      go_wp2_with fail
      go_ret
      exact ⟨by simp [h1, h2], rfl⟩
    · have i1 : ((k.size : Nat) : Int) ≥ 1 := by omega
      have i2 : ¬ ((k.size : Nat) : Int) ≤ 16 := by omega
      go_enter Tryz.func33, Tryz.ntmps33
      go_wp2_with fail
      go_ret
      exact ⟨by simp [h1, h2], rfl⟩
  · have i1 : ¬ ((k.size : Nat) : Int) ≥ 1 := by omega
    go_enter Tryz.func33, Tryz.ntmps33
    go_wp2_with fail
    go_ret
    exact ⟨by simp [h1], rfl⟩
set_option maxHeartbeats 2000000 in
set_option maxRecDepth 100000 in
theorem rtop_ok (w : World) (x : S) (hb : 0 ≤ x.b ∧ x.b ≤ 1048576) (ht : x.t < 2 ^ 64) : Calls Tryz.prog 56 #[.agg #[.int .i64 x.n, .int .i64 x.b, .int .u64 (x.t : Nat)]] w fun r w' => r = .returned (.int .i64 (top x)) ∧ Apart [] w w' := by
  have hbl : bl x.t ≤ 64 := bl_le.2 ht
  have hw : IntKind.i64.wrap (x.b + (bl x.t : Nat)) = x.b + (bl x.t : Nat) := by rw [IntKind.wrap_i64]; omega
  obtain ⟨X, HX⟩ : ∃ X, Hid (X = w.heap.size) := ⟨_, rfl⟩
  obtain ⟨w1, hw1⟩ : ∃ V, V = w.alloc (.cells #[.int .i64 x.n, .int .i64 x.b, .int .u64 (x.t : Nat)] 94) := ⟨_, rfl⟩
  have a1 : Apart [] w w1 := by rw [hw1]; exact (Apart.refl [] w).alloc _
  have hb1 : w1.heap[X]? = some (.cells #[.int .i64 x.n, .int .i64 x.b, .int .u64 (x.t : Nat)] 94 (0, 0)) := by rw [hw1, HX.out]; exact heap_alloc_new w _
  have HA := hid a1
  have HXW : Hid (∀ W, Apart [] w1 W → W.cell? ⟨X, 1, none⟩ = some (.int .i64 x.b) ∧ W.cell? ⟨X, 2, none⟩ = some (.int .u64 (x.t : Nat))) := fun W a => ⟨crow (keep0 a hb1) 1 _ rfl, crow (keep0 a hb1) 2 _ rfl⟩
  have HT := hid ht
  clear a1 ht
  go_enter Tryz.func56, Tryz.ntmps56
  go_upto_region 1 with fail
  rw [← hw1, ← HX.out]
  clear hw1 HX
  have hAd : Apart [] w1 w1.drew := (Apart.refl [] w1).drew
  refine wp_region_held_drew (S := fun W => Apart [] w1 W) (by kernel_rfl) hAd (fun hHeld => ?_)
  generalize w1.drew = wd at *
  refine tk 0 3 (.pointer (some ⟨X, 1, none⟩)) rfl ?_ ?_
  · intro W hSW; go_simp
  simp only [Act.put, List.setIfInBounds_toArray, List.set_cons_zero, List.set_cons_succ]
  refine tk 1 4 (.int .i64 x.b) rfl ?_ ?_
  · intro W hSW; obtain ⟨e1, e2⟩ := HXW.out W hSW; go_simp
  simp only [Act.put, List.setIfInBounds_toArray, List.set_cons_zero, List.set_cons_succ]
  refine tk 2 5 (.pointer (some ⟨X, 2, none⟩)) rfl ?_ ?_
  · intro W hSW; go_simp
  simp only [Act.put, List.setIfInBounds_toArray, List.set_cons_zero, List.set_cons_succ]
  refine tk 3 6 (.int .u64 (x.t : Nat)) rfl ?_ ?_
  · intro W hSW; obtain ⟨e1, e2⟩ := HXW.out W hSW; go_simp
  simp only [Act.put, List.setIfInBounds_toArray, List.set_cons_zero, List.set_cons_succ]
  refine wpAnyH_ready (rs := [4]) (by kernel_rfl) (by simp) ?_
  refine AllReadyH.cons rfl (fun KK hKK => ?_) AllReadyH.nil
  go_simp
  refine (len64 x.t HT.out wd).mono ?_
  rintro _ w2 ⟨rfl, rfl⟩
  try dsimp only
  refine hKK.out _ _ hHeld (fun hHeld => ?_)
  clear hKK KK
  try simp only [Act.put, List.setIfInBounds_toArray, List.set_cons_zero, List.set_cons_succ]
  refine tk 5 8 (.int .i64 (x.b + (bl x.t : Nat))) rfl ?_ ?_
  · intro W hSW; go_simp
  simp only [Act.put, List.setIfInBounds_toArray, List.set_cons_zero, List.set_cons_succ]
  refine tk 6 2 (.int .i64 (x.b + (bl x.t : Nat))) rfl ?_ ?_
  · intro W hSW; go_simp
  simp only [Act.put, List.setIfInBounds_toArray, List.set_cons_zero, List.set_cons_succ]
  refine wpAnyH_done (by kernel_rfl) ?_ _
  go_wp2_with fail
  go_ret
  exact ⟨by unfold top; rfl, HA.out.trans hHeld⟩
/-- a config -/
structure Cf where
  n : Int
  p : Int
  r : Int
  s : Int
  g : Int
  c : Int
  k : Int
  h : Int
  b : Int
def Cf.l (c : Cf) : List Value := [.int .i64 c.n, .int .i64 c.p, .int .i64 c.r, .int .i64 c.s, .int .i64 c.g, .int .i64 c.c, .int .i64 c.k, .int .i64 c.h, .int .i64 c.b]
/-- a span that is outside of a config -/
def outR (c : Cf) (x : S) : Bool := decide (x.n ≥ c.n) || decide (top x > c.c)
set_option maxHeartbeats 2000000 in
set_option maxRecDepth 100000 in
theorem set1_ok {w : World} {C : Nat} {c : Cf} (hC : w.heap[C]? = some (.cells #[.int .i64 c.n, .int .i64 c.p, .int .i64 c.r, .int .i64 c.s, .int .i64 c.g, .int .i64 c.c, .int .i64 c.k, .int .i64 c.h, .int .i64 c.b] 27 (0, 0))) (x : S) (hb : 0 ≤ x.b ∧ x.b ≤ 1048576) (ht : x.t < 2 ^ 64) : Calls Tryz.prog 55 #[.agg #[.int .i64 x.n, .int .i64 x.b, .int .u64 (x.t : Nat)], .pointer (some ⟨C, 0, none⟩)] w fun r w' => r = .returned (.bool (outR c x)) ∧ Apart [] w w' := by
  obtain ⟨X, HX⟩ : ∃ X, Hid (X = w.heap.size) := ⟨_, rfl⟩
  obtain ⟨w1, hw1⟩ : ∃ V, V = w.alloc (.cells #[.int .i64 x.n, .int .i64 x.b, .int .u64 (x.t : Nat)] 94) := ⟨_, rfl⟩
  have a1 : Apart [] w w1 := by rw [hw1]; exact (Apart.refl [] w).alloc _
  have hb1 : w1.heap[X]? = some (.cells #[.int .i64 x.n, .int .i64 x.b, .int .u64 (x.t : Nat)] 94 (0, 0)) := by rw [hw1, HX.out]; exact heap_alloc_new w _
  have hC1 := keep0 a1 hC
  have HA := hid a1
  have HXW : Hid (∀ W, Apart [] w1 W → W.cell? ⟨X, 0, none⟩ = some (.int .i64 x.n) ∧ W.cell? ⟨X, 1, none⟩ = some (.int .i64 x.b) ∧ W.cell? ⟨X, 2, none⟩ = some (.int .u64 (x.t : Nat)) ∧ W.cell? ⟨C, 0, none⟩ = some (.int .i64 c.n) ∧ W.cell? ⟨C, 5, none⟩ = some (.int .i64 c.c)) := fun W a => ⟨crow (keep0 a hb1) 0 _ rfl, crow (keep0 a hb1) 1 _ rfl, crow (keep0 a hb1) 2 _ rfl, crow (keep0 a hC1) 0 _ rfl, crow (keep0 a hC1) 5 _ rfl⟩
  have HT := hid (And.intro hb ht)
  clear a1 ht hb hb1 hC hC1
  unfold outR
  obtain ⟨q1, Hq1⟩ : ∃ b : Bool, Hid (b = decide (x.n ≥ c.n)) := ⟨_, rfl⟩
  obtain ⟨q2, Hq2⟩ : ∃ b : Bool, Hid (b = decide (top x > c.c)) := ⟨_, rfl⟩
  rw [← Hq1.out, ← Hq2.out]
  go_enter Tryz.func55, Tryz.ntmps55
  go_upto_region 1 with fail
  rw [← hw1, ← HX.out]
  clear hw1 HX
  have hAd : Apart [] w1 w1.drew := (Apart.refl [] w1).drew
  refine wp_region_held_drew (S := fun W => Apart [] w1 W) (by kernel_rfl) hAd (fun hHeld => ?_)
  generalize w1.drew = wd at *
  refine tk 0 4 (.pointer (some ⟨X, 0, none⟩)) rfl ?_ ?_
  · intro W hSW; go_simp
  simp only [Act.put, List.setIfInBounds_toArray, List.set_cons_zero, List.set_cons_succ]
  refine tk 1 5 (.int .i64 x.n) rfl ?_ ?_
  · intro W hSW; obtain ⟨e0, e1, e2, e3, e4⟩ := HXW.out W hSW; go_simp
  simp only [Act.put, List.setIfInBounds_toArray, List.set_cons_zero, List.set_cons_succ]
  refine tk 2 6 (.pointer (some ⟨C, 0, none⟩)) rfl ?_ ?_
  · intro W hSW; go_simp
  simp only [Act.put, List.setIfInBounds_toArray, List.set_cons_zero, List.set_cons_succ]
  refine tk 3 7 (.int .i64 c.n) rfl ?_ ?_
  · intro W hSW; obtain ⟨e0, e1, e2, e3, e4⟩ := HXW.out W hSW; go_simp
  simp only [Act.put, List.setIfInBounds_toArray, List.set_cons_zero, List.set_cons_succ]
  refine tk 4 8 (.bool q1) rfl ?_ ?_
  · intro W hSW; rw [Hq1.out]; go_simp
  simp only [Act.put, List.setIfInBounds_toArray, List.set_cons_zero, List.set_cons_succ]
  refine tk 5 9 (.bool q1) rfl ?_ ?_
  · intro W hSW; go_simp
  simp only [Act.put, List.setIfInBounds_toArray, List.set_cons_zero, List.set_cons_succ]
  cases q1 with
  | true =>
    refine tu 6 10 rfl ?_
    simp only [Act.put, List.setIfInBounds_toArray, List.set_cons_zero, List.set_cons_succ]
    refine tu 8 12 rfl ?_
    simp only [Act.put, List.setIfInBounds_toArray, List.set_cons_zero, List.set_cons_succ]
    refine tu 9 13 rfl ?_
    simp only [Act.put, List.setIfInBounds_toArray, List.set_cons_zero, List.set_cons_succ]
    refine wpAnyH_pass 7 (o := ⟨some 11, _, _, _, _, _⟩) (by kernel_rfl) rfl (by kernel_rfl) (by assumption) ?_
    simp only [Act.put, List.setIfInBounds_toArray, List.set_cons_zero, List.set_cons_succ]
    refine tu 10 14 rfl ?_
    simp only [Act.put, List.setIfInBounds_toArray, List.set_cons_zero, List.set_cons_succ]
    refine tk 11 15 (.bool true) rfl ?_ ?_
    · intro W hSW; go_simp
    simp only [Act.put, List.setIfInBounds_toArray, List.set_cons_zero, List.set_cons_succ]
    refine tk 12 3 (.bool true) rfl ?_ ?_
    · intro W hSW; go_simp
    simp only [Act.put, List.setIfInBounds_toArray, List.set_cons_zero, List.set_cons_succ]
    refine wpAnyH_done (by kernel_rfl) ?_ _
    go_wp2_with fail
    go_ret
    exact ⟨rfl, HA.out.trans hHeld⟩
  | false =>
    refine tk 6 10 (.agg #[.int .i64 x.n, .int .i64 x.b, .int .u64 (x.t : Nat)]) rfl ?_ ?_
    · intro W hSW; obtain ⟨e0, e1, e2, e3, e4⟩ := HXW.out W hSW; go_simp
    simp only [Act.put, List.setIfInBounds_toArray, List.set_cons_zero, List.set_cons_succ]
    refine tk 8 12 (.pointer (some ⟨C, 5, none⟩)) rfl ?_ ?_
    · intro W hSW; go_simp
    simp only [Act.put, List.setIfInBounds_toArray, List.set_cons_zero, List.set_cons_succ]
    refine tk 9 13 (.int .i64 c.c) rfl ?_ ?_
    · intro W hSW; obtain ⟨e0, e1, e2, e3, e4⟩ := HXW.out W hSW; go_simp
    simp only [Act.put, List.setIfInBounds_toArray, List.set_cons_zero, List.set_cons_succ]
    refine wpAnyH_ready (rs := [7]) (by kernel_rfl) (by simp) ?_
    refine AllReadyH.cons rfl (fun KK hKK => ?_) AllReadyH.nil
    go_simp
    refine (rtop_ok wd x HT.out.1 HT.out.2).mono ?_
    rintro _ w2 ⟨rfl, a2⟩
    have hS2 := hHeld.trans a2
    clear a2
    try dsimp only
    refine hKK.out _ _ hS2 (fun hHeld => ?_)
    clear hKK KK
    try simp only [Act.put, List.setIfInBounds_toArray, List.set_cons_zero, List.set_cons_succ]
    refine tk 10 14 (.bool q2) rfl ?_ ?_
    · intro W hSW; rw [Hq2.out]; go_simp
    simp only [Act.put, List.setIfInBounds_toArray, List.set_cons_zero, List.set_cons_succ]
    refine tk 11 15 (.bool q2) rfl ?_ ?_
    · intro W hSW; go_simp
    simp only [Act.put, List.setIfInBounds_toArray, List.set_cons_zero, List.set_cons_succ]
    refine tk 12 3 (.bool q2) rfl ?_ ?_
    · intro W hSW; go_simp
    simp only [Act.put, List.setIfInBounds_toArray, List.set_cons_zero, List.set_cons_succ]
    refine wpAnyH_done (by kernel_rfl) ?_ _
    go_wp2_with fail
    go_ret
    exact ⟨by simp, HA.out.trans hHeld⟩
end Go.Proofs.YtpddokbjjhbfgaaGreat.ds
namespace Go.Proofs.YtpddokbjjhbfgaaGreat.ds
open Go.ChangeShapes Go.WideShapes Go.ChangeAt Go.RowKit Go.Sort
set_option linter.unusedVariables false
set_option linter.unusedSimpArgs false

/-- the cells of a config -/
abbrev Cf.a (c : Cf) : Array Value := #[.int .i64 c.n, .int .i64 c.p, .int .i64 c.r, .int .i64 c.s, .int .i64 c.g, .int .i64 c.c, .int .i64 c.k, .int .i64 c.h, .int .i64 c.b]
/-- the first span that is outside -/
def idxO (c : Cf) (xs : List S) : Int := if xs.any (outR c) then (xs.findIdx (outR c) : Nat) else -1
set_option maxHeartbeats 4000000 in
set_option maxRecDepth 100000 in
theorem index55_ok {w : World} {C : Nat} {c : Cf} (hC : w.heap[C]? = some (.cells c.a 27 (0, 0))) {p : Option Addr} {N cap : Nat} {xs : List S} (h : L w p N xs) (hb : ∀ x ∈ xs, 0 ≤ x.b ∧ x.b ≤ 1048576) :
    Calls Tryz.prog 77 #[.slice p N cap, .func (.func 55) #[] #[.pointer (some ⟨C, 0, none⟩)]] w fun r w' => (∃ k : Int, r = .returned (.int .i64 k) ∧ (k ≥ 0 ↔ xs.any (outR c) = true)) ∧ Apart [] w w' := by
  have HL := hid h
  have HC := hid hC
  have HB := hid hb
  have hlen := h.len
  have hlim := h.lim
  clear h hC hb
  go_enter Tryz.func77, Tryz.ntmps77
  go_wp2_with fail
  go_loopw [5, 8] (fun _ a wt => ∃ i : Nat, a = .int .i64 (i : Nat) ∧ i ≤ N ∧ Hid (Apart [] w wt ∧ ∀ j, j < i → outR c (g xs j) = false)) (fun _ a _ => N - (intOf a).toNat)
  case atStart => exact ⟨0, rfl, Nat.zero_le _, hid ⟨Apart.refl _ _, fun j hj => absurd hj (by omega)⟩⟩
  case round =>
    obtain ⟨i, rfl, hile, HI⟩ := hrel
    by_cases hlt : i < N
    · have hlti : ((i : Nat) : Int) < (N : Int) := by omega
      obtain ⟨P, o, hP, hPl, hc⟩ := HL.out.sp (by omega)
      obtain ⟨k0, k1, k2⟩ := hc i (by omega)
      have c0 := (HI.out.1.cell (p := ⟨P, o + i * 3, none⟩) hPl (by simp)).trans k0
      have c1 := (HI.out.1.cell (p := ⟨P, o + i * 3 + 1, none⟩) hPl (by simp)).trans k1
      have c2 := (HI.out.1.cell (p := ⟨P, o + i * 3 + 2, none⟩) hPl (by simp)).trans k2
      have hm : g xs i ∈ xs := by unfold g; rw [List.getD_eq_getElem?_getD, List.getElem?_eq_getElem (by omega)]; exact List.getElem_mem (by omega)
      have hcall := set1_ok (keep0 HI.out.1 HC.out) (g xs i) (HB.out _ hm) (HL.out.fit _ hm)
      obtain ⟨v, HV⟩ : ∃ v, Hid (outR c (g xs i) = v) := ⟨_, rfl⟩
      rw [HV.out] at hcall
      have HCA := hid hcall
      subst hP
      clear hc k0 k1 k2 hcall hm
      go_wp2_with fail
      refine HCA.out.mono ?_
      rintro _ w2 ⟨rfl, a2⟩
      have HA2 := hid (HI.out.1.trans a2)
      clear a2 HCA c0 c1 c2
      try dsimp only
      cases v with
      | true =>
        go_wp2_with fail
        go_ret
        refine ⟨⟨_, rfl, ⟨fun _ => ?_, fun _ => by omega⟩⟩, HA2.out⟩
        rw [List.any_eq_true]
        refine ⟨g xs i, ?_, HV.out⟩
        unfold g; rw [List.getD_eq_getElem?_getD, List.getElem?_eq_getElem (by omega)]; exact List.getElem_mem (by omega)
      | false =>
        go_wp2_with fail
        go_roundw
        case rel =>
          refine ⟨i + 1, by go_num, by omega, hid ⟨HA2.out, fun j hj => ?_⟩⟩
          by_cases e : j = i
          · rw [e]; exact HV.out
          · exact HI.out.2 j (by omega)
        case measure => simp [intOf]; omega
    · have hlti : ¬ ((i : Nat) : Int) < (N : Int) := by omega
      go_wp2_with fail
      go_ret
      refine ⟨⟨-1, rfl, ⟨fun hh => by omega, fun hh => ?_⟩⟩, HI.out.1⟩
      try rw [List.any_eq_true] at hh
      obtain ⟨x, hx, hox⟩ := hh
      obtain ⟨j, hj, rfl⟩ := List.getElem_of_mem hx
      have := HI.out.2 j (by omega)
      unfold g at this
      rw [List.getD_eq_getElem?_getD, List.getElem?_eq_getElem hj] at this
      simp at this
      rw [this] at hox
      cases hox
theorem contains55_ok {w : World} {C : Nat} {c : Cf} (hC : w.heap[C]? = some (.cells c.a 27 (0, 0))) {p : Option Addr} {N cap : Nat} {xs : List S} (h : L w p N xs) (hb : ∀ x ∈ xs, 0 ≤ x.b ∧ x.b ≤ 1048576) :
    Calls Tryz.prog 54 #[.slice p N cap, .func (.func 55) #[] #[.pointer (some ⟨C, 0, none⟩)]] w fun r w' => r = .returned (.bool (xs.any (outR c))) ∧ Apart [] w w' := by
  have HQ := hid (index55_ok (cap := cap) hC h hb)
  clear hC h hb
  go_enter Tryz.func54, Tryz.ntmps54
  go_wp2_with fail
  refine HQ.out.mono ?_
  rintro _ w1 ⟨⟨k, rfl, hk⟩, a1⟩
  have HA := hid a1
  have HK := hid hk
  clear HQ a1 hk
  try dsimp only
  go_wp2_with fail
  go_ret
  refine ⟨?_, HA.out⟩
  have := HK.out
  by_cases hh : k ≥ 0
  · simp [hh, this.1 hh]
  · have h2 : xs.any (outR c) = false := by
      cases e : xs.any (outR c)
      · rfl
      · exact absurd (this.2 e) hh
    simp [hh, h2]
/-- right.Set -/
noncomputable def setR (c : Cf) (xs : List S) : Bool := decide (chk xs c.g = 0) && !xs.any (outR c)
theorem okl_b {gap : Int} {xs : List S} (h : OkL gap xs) : ∀ x ∈ xs, 0 ≤ x.b ∧ x.b ≤ 1048576 := fun x hx => by
  have := h.ok x hx
  exact ⟨this.b0, this.bM⟩
set_option maxHeartbeats 2000000 in
set_option maxRecDepth 100000 in
theorem rset_ok {w : World} (c : Cf) {p : Option Addr} {N cap : Nat} {xs : List S} (h : L w p N xs) : Calls Tryz.prog 34 #[.agg c.a, .slice p N cap] w fun r w' => r = .returned (.bool (setR c xs)) ∧ Apart [] w w' := by
  obtain ⟨X, HX⟩ : ∃ X, Hid (X = w.heap.size) := ⟨_, rfl⟩
  obtain ⟨w1, hw1⟩ : ∃ V, V = w.alloc (.cells c.a 27) := ⟨_, rfl⟩
  have a1 : Apart [] w w1 := by rw [hw1]; exact (Apart.refl [] w).alloc _
  have hb1 : w1.heap[X]? = some (.cells c.a 27 (0, 0)) := by rw [hw1, HX.out]; exact heap_alloc_new w _
  have HA := hid a1
  have HB1 := hid hb1
  have HL := hid (h.kept0 a1)
  obtain ⟨e, HE⟩ : ∃ e : Int, Hid (e = chk xs c.g) := ⟨_, rfl⟩
  clear a1 h hb1
  unfold Cf.a at hw1 ⊢
  go_enter Tryz.func34, Tryz.ntmps34
  go_upto_region 1 with fail
  rw [← hw1, ← HX.out]
  clear hw1 HX
  have z4 := crow HB1.out 4 (.int .i64 c.g) rfl
  go_wp2_with fail
  refine (check_as (cap := cap) HL.out e HE.out).mono ?_
  rintro _ w2 ⟨rfl, a2⟩
  have HA2 := hid (HA.out.trans a2)
  have HL2 := hid (HL.out.kept0 a2)
  have HB2 := hid (keep0 a2 HB1.out)
  clear a2 z4
  try dsimp only
  by_cases he : e = 0
  · subst he
    have hok : OkL c.g xs := by
      have := HE.out
      unfold chk at this
      split at this
      · split at this
        · assumption
        · omega
      · omega
    have HQ := hid (contains55_ok (cap := cap) HB2.out HL2.out (okl_b hok))
    have HOK := hid hok
    clear hok
    go_wp2_with fail
    refine HQ.out.mono ?_
    rintro _ w3 ⟨rfl, a3⟩
    have HA3 := hid (HA2.out.trans a3)
    clear a3 HQ
    try dsimp only
    go_wp2_with fail
    go_ret
    exact ⟨by unfold setR; rw [← HE.out]; simp, HA3.out⟩
  · have hbe : (e != 0) = true := by simp [he]
    go_wp2_with fail
    go_ret
    exact ⟨by unfold setR; rw [← HE.out]; simp [he], HA2.out⟩
end Go.Proofs.YtpddokbjjhbfgaaGreat.ds
namespace Go.Proofs.YtpddokbjjhbfgaaGreat.ds
open Go.ChangeShapes Go.WideShapes Go.ChangeAt Go.RowKit Go.Sort
set_option linter.unusedVariables false
set_option linter.unusedSimpArgs false

/-- where a session's parts lie -/
structure Gs where
  S : Nat
  R : Nat
  L : Nat
  M : Nat
  cap : Nat
  g : ByteArray → Option (Nat × Int)
def Gs.has (G : Gs) (k : Nat) : Prop := k = G.S ∨ k = G.R ∨ k = G.L ∨ k = G.M ∨ ∃ (s : ByteArray) (x : Nat × Int), s.size ≤ maxLen ∧ G.g s = some x ∧ k = x.1
abbrev sesA (c : Cf) (R L n cap M : Nat) : Array Value := #[.int .i64 c.n, .int .i64 c.p, .int .i64 c.r, .int .i64 c.s, .int .i64 c.g, .int .i64 c.c, .int .i64 c.k, .int .i64 c.h, .int .i64 c.b, .pointer (some ⟨R, 0, none⟩), .slice (some ⟨L, 0, none⟩) n cap, .map (some M)]
/-- what was seen of a key -/
abbrev Sg := List Dt × Int
def HdOk (w : World) (M N : Nat) (x : Option (Nat × Int)) (y : Sg) : Prop := match x with
  | none => y = ([], 0)
  | some (h, k) => SetAt w h y.1 N ∧ y.2 = k ∧ h ≠ M
/-- a session in memory -/
structure Ss (w : World) (G : Gs) (c : Cf) (nn rr pp : Nat) (lk : List Int) (f : ByteArray → Sg) (N : Nat) : Prop where
  cn : c.n = nn
  cr : c.r = rr
  cp : c.p = pp
  p1 : 1 ≤ pp
  pn : pp ≤ nn
  blk : w.heap[G.S]? = some (.cells (sesA c G.R G.L nn G.cap G.M) 81 (0, 0))
  ring : rg.Rg w G.R nn rr
  rs : G.R ≠ G.S ∧ G.R ≠ G.L
  li : Lk w G.L G.cap lk
  ll : lk.length = nn
  lm : ∀ v : Int, v ∈ lk ↔ 0 ≤ v ∧ v < nn
  ld : lk.Nodup
  mp : MapK w G.M G.g N
  hd : ∀ s : ByteArray, s.size ≤ maxLen → HdOk w G.M N (G.g s) (f s) ∧ UpD (f s).1 ∧ (f s).1.length ≤ N
theorem Rg_same {w w' : World} {R n m : Nat} (h : rg.Rg w R n m) (e : w'.heap[R]? = w.heap[R]?) : rg.Rg w' R n m :=
  { h with c0 := (World.cell?_of_block (a := ⟨R, 0, none⟩) e).trans h.c0, c1 := (World.cell?_of_block (a := ⟨R, 1, none⟩) e).trans h.c1 }
theorem HdOk.mono {w : World} {M N N' : Nat} {x : Option (Nat × Int)} {y : Sg} (h : HdOk w M N x y) (hn : N ≤ N') : HdOk w M N' x y := by
  cases x with
  | none => exact h
  | some p => exact ⟨h.1.mono hn, h.2⟩
theorem MapK.mono {w : World} {M : Nat} {g : ByteArray → Option (Nat × Int)} {N N' : Nat} (h : MapK w M g N) (hn : N ≤ N') : MapK w M g N' := by
  obtain ⟨D, h1, h5⟩ := h
  exact ⟨D, h1.mono hn, h5⟩
theorem Ss.mono {w : World} {G : Gs} {c : Cf} {nn rr pp : Nat} {lk : List Int} {f : ByteArray → Sg} {N N' : Nat} (h : Ss w G c nn rr pp lk f N) (hn : N ≤ N') : Ss w G c nn rr pp lk f N' :=
  { h with mp := h.mp.mono hn, hd := fun s hs => ⟨(h.hd s hs).1.mono hn, (h.hd s hs).2.1, Nat.le_trans (h.hd s hs).2.2 hn⟩ }
theorem Ss.kept {w w' : World} {G : Gs} {c : Cf} {nn rr pp : Nat} {lk : List Int} {f : ByteArray → Sg} {N : Nat} (h : Ss w G c nn rr pp lk f N) (hk : ∀ k, k < w.heap.size → G.has k → w'.heap[k]? = w.heap[k]?) : Ss w' G c nn rr pp lk f N :=
  { h with
    blk := (hk _ (lt_of_heap h.blk) (.inl rfl)).trans h.blk
    ring := Rg_same h.ring (hk _ h.ring.lt (.inr (.inl rfl)))
    li := h.li.kept (hk _ h.li.lt (.inr (.inr (.inl rfl))))
    mp := h.mp.kept (hk _ h.mp.lt (.inr (.inr (.inr (.inl rfl)))))
    hd := fun s hs => ⟨by
      have := (h.hd s hs).1
      cases e : G.g s with
      | none => rw [e] at this; exact this
      | some p =>
        rw [e] at this
        exact ⟨this.1.kept (hk _ this.1.lt (.inr (.inr (.inr (.inr ⟨s, p, hs, e, rfl⟩))))), this.2⟩, (h.hd s hs).2⟩ }
theorem Ss.kept0 {w w' : World} {G : Gs} {c : Cf} {nn rr pp : Nat} {lk : List Int} {f : ByteArray → Sg} {N : Nat} (h : Ss w G c nn rr pp lk f N) (a : Apart [] w w') : Ss w' G c nn rr pp lk f N := h.kept (fun k hk _ => a.block k hk (by simp))
theorem Ss.hdAt {w : World} {G : Gs} {c : Cf} {nn rr pp : Nat} {lk : List Int} {f : ByteArray → Sg} {N : Nat} (h : Ss w G c nn rr pp lk f N) {s : ByteArray} (hs : s.size ≤ maxLen) : ∃ m : Option Nat, sgV (G.g s) = .agg #[.map m, .int .i64 (f s).2] ∧ HdAt w m (f s).1 N := by
  have := (h.hd s hs).1
  cases e : G.g s with
  | none =>
    rw [e] at this
    have e2 : f s = ([], 0) := this
    exact ⟨none, by rw [e2]; rfl, by rw [e2]; rfl⟩
  | some p =>
    rw [e] at this
    exact ⟨some p.1, by rw [this.2.1]; rfl, this.1⟩
theorem Ss.cells {w : World} {G : Gs} {c : Cf} {nn rr pp : Nat} {lk : List Int} {f : ByteArray → Sg} {N : Nat} (h : Ss w G c nn rr pp lk f N) : ∀ W, Apart [] w W → W.cell? ⟨G.S, 1, none⟩ = some (.int .i64 (pp : Nat)) ∧ W.cell? ⟨G.S, 9, none⟩ = some (.pointer (some ⟨G.R, 0, none⟩)) ∧ W.cell? ⟨G.S, 10, none⟩ = some (.slice (some ⟨G.L, 0, none⟩) nn G.cap) ∧ W.cell? ⟨G.S, 11, none⟩ = some (.map (some G.M)) := fun W a => by
  have b := keep0 a h.blk
  exact ⟨by rw [← h.cp]; exact crow b 1 _ rfl, crow b 9 _ rfl, crow b 10 _ rfl, crow b 11 _ rfl⟩
set_option maxRecDepth 100000 in
theorem token_ok {w : World} {G : Gs} {c : Cf} {nn rr pp : Nat} {lk : List Int} {f : ByteArray → Sg} {N : Nat} (h : Ss w G c nn rr pp lk f N) {s : ByteArray} (hs : s.size ≤ maxLen) :
    Calls Tryz.prog 18 #[.pointer (some ⟨G.S, 0, none⟩), .string s] w fun r w' => r = .returned (.int .i64 (f s).2) ∧ w' = w := by
  obtain ⟨m, hv, -⟩ := h.hdAt hs
  obtain ⟨-, -, -, z11⟩ := h.cells w (Apart.refl _ _)
  have hlook := h.mp.look hs
  rw [hv] at hlook
  have hfld : ∀ W, (Instr.field 85 (.agg #[.map m, .int .i64 (f s).2]) 1).run Tryz.prog W = .ok (.int .i64 (f s).2) W := fun W => by kernel_rfl
  clear h
  go_enter Tryz.func18, Tryz.ntmps18
  go_wp2_with fail
  go_ret
  exact ⟨rfl, rfl⟩
set_option maxHeartbeats 2000000 in
set_option maxRecDepth 100000 in
theorem heads_ok {w : World} {G : Gs} {c : Cf} {nn rr pp : Nat} {lk : List Int} {f : ByteArray → Sg} {N : Nat} (h : Ss w G c nn rr pp lk f N) (hN : N ≤ 4000000) {s : ByteArray} (hs : s.size ≤ maxLen) :
    Calls Tryz.prog 17 #[.pointer (some ⟨G.S, 0, none⟩), .string s] w fun r w' => SqS w (f s).1 r w' := by
  obtain ⟨m, hv, hat⟩ := h.hdAt hs
  obtain ⟨-, -, -, z11⟩ := h.cells w (Apart.refl _ _)
  have hlook := h.mp.look hs
  rw [hv] at hlook
  have hfld : ∀ W, (Instr.field 85 (.agg #[.map m, .int .i64 (f s).2]) 0).run Tryz.prog W = .ok (.map m) W := fun W => by kernel_rfl
  have HAT := hid hat
  have HU := hid (h.hd s hs).2
  clear h hat hv
  go_enter Tryz.func17, Tryz.ntmps17
  go_wp2_with fail
  refine (keys_ok w m).mono ?_
  rintro _ w1 ⟨rfl, hw1⟩
  have a1 : Apart [] w w1 := by rw [hw1]; exact (Apart.refl [] w).alloc _
  have hb1 : w1.heap[w.heap.size]? = some (.cells #[.map m] 83 (0, 0)) := by rw [hw1]; exact heap_alloc_new w _
  have HQ := hid (sortedFunc_ok (lt_of_heap hb1) (crow hb1 0 (.map m) rfl) (HAT.out.kept0 a1) HU.out.1 (Nat.le_trans HU.out.2 hN) hN)
  have HA1 := hid a1
  clear a1 hb1 hw1 z11 hlook hfld
  try dsimp only
  go_wp2_with fail
  refine HQ.out.mono ?_
  rintro _ w2 ⟨sl, rfl, hn⟩
  have HN2 : Hid (Nw w w2 34 2 sl (flD (f s).1)) := hid ⟨hn.own, fun k hk => Nat.le_trans HA1.out.size (hn.new k hk), HA1.out.trans hn.ap⟩
  clear hn HQ
  try dsimp only
  go_wp2_with fail
  go_ret
  exact ⟨sl, rfl, HN2.out⟩
end Go.Proofs.YtpddokbjjhbfgaaGreat.ds
