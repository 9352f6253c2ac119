import Derived.Test.YtpddokbjjhbfgaaGreatChecked
import Derived.WalkKit
import Derived.ProofKit
import Derived.Maps.OwnSet
import Derived.Maps.RangeWalk
import Derived.DeepKeys4
import Derived.MapViews
import Derived.StringKeys
import Derived.Lib.TrailingZeros
import Derived.OpenShut
import Derived.Deep.QuietTactic
import Derived.BigQuiet
import Derived.BigRegion
import Derived.Laws.CopyOwn
import Derived.Laws.Bits64b
import Derived.Laws.MathBits
import Derived.Laws.ShiftsVarLaws
import Derived.WalkSmall
import Derived.Laws.ResultCell
import Derived.Lib.BitFns
import Derived.Laws.StructEq
import Derived.Deep.RegionHeld
import Derived.ArgAppend
import Derived.Deep.RegionLaw
import Derived.Deep.DeepAppendRoom
import Derived.Sort.WalkA
import Derived.Laws.Strings
import Derived.Deep.CutBlock
import Derived.Great.BuildSlice
import Derived.Laws.AppendOwnNone
import Derived.Laws.BytesString
import Derived.Lib.Overlaps
import Derived.Lib.AppendZerosOnto
import Derived.Laws.NewBlocks
import Derived.Laws.Externs
import Derived.Laws.IdiomCopy
import Derived.RangeFuncNested
import Derived.RangeFuncBound
import Derived.RangeFuncCalls
import Derived.RangeFuncLeaves
import Derived.Shelf.Abstract
import Derived.Shelf.RegionOpen
import Derived.OwnWalkIn
import Derived.TacticsInMore
import Derived.LoopNIn
import Derived.LoopIn
import Derived.Deep.CutRange
import Derived.Deep.OwnRows
import Derived.Lib.Walk
import Derived.Lib.SliceRun
import GoSem.Claim
import GoSem.ClaimJoined
import GoSem.ClaimMapViews
import Derived.JoinedTies
import Derived.KernelRfl
import Derived.Lib.LaidTab
import Derived.JoinedCond
import Derived.ShutString
import Derived.ChangeOld
import Derived.Below
import Derived.Carry
import Derived.ChangeSlices
import Derived.Deep.Slices
import Derived.Deep.DeepHandedRow
import Derived.RowKit
import Derived.ChangeShapes
import Derived.SizedLaws
import Derived.ChangeMaps5
import Derived.OrdersHeld
import Derived.Lib.AppendStr
import Derived.Lib.ConvBytes
import Derived.Deep.RegionHeld3
import Derived.Deep.MidRow
import Derived.Laws.BitsAllLaws
import Derived.Sort.Grow
import Derived.Shelf.SlSortCmp.WholeK
import Derived.Shelf.Lay
import Derived.Ground.SlsfProg
import Derived.Sort.LotA
import Derived.Sort.MapsRangeIn
import Derived.RangeFuncSeq
import Derived.RangeFuncKeeps
import Derived.Maps.AppendAt
import Derived.OwnWalk
import Derived.Test.YtpddokbjjhbfgaaGreatRows
import Derived.Test.YtpddokbjjhbfgaaGreatV15
namespace Go.Proofs.YtpddokbjjhbfgaaGreat.rg
open Go.ChangeShapes Go.WideShapes Go.ChangeAt Go.RowKit Go.Sort Go.Shelf
shelf_lay_g SlLaysF0.n6 Slsf 6 at Tryz 112 as sortPt
set_option linter.unusedVariables false
set_option linter.unusedSimpArgs false
def encP (x : Pt) : List Value := [.int .u32 (x.1 : Nat), .int .i64 (x.2 : Nat)]
theorem swoP : SWO (ltOf cfP) where
  irrefl x := by show decide (cfP x x < 0) = false; rw [cfP_lt, ltP_not]; omega
  trans x y z h1 h2 := by
    have e : ∀ a b, ltOf cfP a b = ltP a b := fun a b => cfP_lt a b
    rw [e, ltP_iff] at *; omega
  ntrans x y z h1 h2 := by
    have e : ∀ a b, ltOf cfP a b = ltP a b := fun a b => cfP_lt a b
    rw [e, ltP_not] at *; omega
theorem flatK_eq (l : List Pt) : flatK encP 2 l.toArray = (flP l).toArray := by
  refine ext_get! (by simp [flP_length]) fun t ht => ?_
  have ht' : t < l.length * 2 := by simpa using ht
  rw [get_flatK _ _ _ _ (by simpa using ht')]
  have hq : t / 2 < l.length := by omega
  obtain ⟨c0, c1⟩ := flP_get l (t / 2) hq
  have ea : (l.toArray)[t / 2]! = l.getD (t / 2) (0, 0) := by
    rw [getElem!_pos _ _ (by simpa using hq), List.getD_eq_getElem?_getD, List.getElem?_eq_getElem hq]; simp
  rw [ea]
  have hb : (flP l).toArray[t]! = ((flP l)[t]?).getD default := by
    rw [Array.getElem!_eq_getD, Array.getD_eq_getD_getElem?]; simp
  rw [hb]
  rcases Nat.mod_two_eq_zero_or_one t with h | h
  · rw [h, show (flP l)[t]? = (flP l)[t / 2 * 2]? from by rw [show t / 2 * 2 = t by omega], c0]; rfl
  · rw [h, show (flP l)[t]? = (flP l)[t / 2 * 2 + 1]? from by rw [show t / 2 * 2 + 1 = t by omega], c1]; rfl
theorem perm_srt (l : List Pt) : PermIn 0 l.toArray.size l.toArray (srtP l).toArray := by
  have hp := srtP_perm l
  have hl := hp.length_eq
  refine ⟨by simpa using hl, fun i hi => ?_, ?_⟩
  · have hi' : l.length ≤ i := by simpa using hi
    rw [getElem!_neg _ i (by simp; omega), getElem!_neg _ i (by simp; omega)]
  · have e1 : ((srtP l).toArray.extract 0 l.toArray.size).toList = srtP l := by simp [← hl]
    have e2 : (l.toArray.extract 0 l.toArray.size).toList = l := by simp
    rw [e1, e2]; exact hp
theorem sorted_srt (l : List Pt) : SortedIn (ltOf cfP) 0 l.toArray.size (srtP l).toArray := by
  have hl := (srtP_perm l).length_eq
  intro i j _ hij hj
  have hj' : j < l.length := by simpa using hj
  have hs := List.pairwise_iff_getElem.1 (srtP_sorted l) i j (by omega) (by omega) hij
  rw [getElem!_pos _ j (by simp; omega), getElem!_pos _ i (by simp; omega)]
  show decide (cfP _ _ < 0) = false
  rw [cfP_lt]
  simpa using hs
theorem total_lt (x y : Pt) (h1 : ltOf cfP x y = false) (h2 : ltOf cfP y x = false) : x = y := by
  have e : ∀ a b, ltOf cfP a b = ltP a b := fun a b => cfP_lt a b
  rw [e, ltP_not] at *
  obtain ⟨a, b⟩ := x; obtain ⟨c, d⟩ := y
  simp only at h1 h2
  have : a = c := by omega
  have : b = d := by omega
  subst_vars; rfl
theorem srt_eq (l : List Pt) (d' : Array Pt) (hp : PermIn 0 l.toArray.size l.toArray d') (hs : SortedIn (ltOf cfP) 0 l.toArray.size d') : d' = (srtP l).toArray := by
  have h1 := sorted_unique_holds swoP total_lt l.toArray d' hp hs
  have h2 := sorted_unique_holds swoP total_lt l.toArray (srtP l).toArray (perm_srt l) (sorted_srt l)
  exact Array.toList_inj.1 (h1.trans h2.symm)
theorem cmpLays (blk off size : Nat) (w : World) : CmpLays Tryz.prog 110 #[] encP 2 cfP blk off size w :=
  fun m os dk hs x y => compare_ok x y _
set_option maxHeartbeats 1000000 in
theorem sort_ok {w W : World} {P m cap : Nat} {l : List Pt} (O : OwnP w W (some ⟨P, 0, none⟩) m cap l) (hm : m = l.length) (h0 : m ≤ 1000) :
    Calls Tryz.prog 112 #[.slice (some ⟨P, 0, none⟩) m cap, .func (.func 110) #[] #[]] W fun r w' => r = .returned (.tuple #[]) ∧ OwnP w w' (some ⟨P, 0, none⟩) m cap (srtP l) := by
  have eg : ∀ args w, (callFunc 110 args).run Tryz.prog w = .ok (.enter 110 args) w := enters_of Tryz.func110 (by kernel_rfl) rfl
  obtain ⟨hxl, ⟨hv, _⟩ | ⟨g, cap', cur, hv, hb, hr, hle, hcm, hcs, htk⟩⟩ := id O.own
  · cases hv
  simp only [Value.slice.injEq, Option.some.injEq, Addr.mk.injEq, and_true, true_and] at hv
  obtain ⟨rfl, rfl⟩ := hv
  have hblk : P < W.heap.size := lt_of_heap hr
  have hH : HoldsK encP 2 W P 0 l.toArray := by
    intro j hj
    rw [flatK_eq] at hj ⊢
    have hj' : j < l.length * 2 := by simpa [flP_length] using hj
    refine ⟨?_, ?_⟩
    · rw [Nat.zero_add, O.cellP j hj']
      rw [getElem!_pos _ j hj]; simp
    · simp [World.frozen?, hr]
  have hcon := AnyQ.slices_SortFunc sortPt 2 Tryz.isAgg170 Tryz.sizeOf170 encP (fun _ => rfl) (fun x v hv => by simp [encP] at hv; rcases hv with rfl | rfl <;> rfl) cfP swoP 110 #[] P 0 cap l.toArray W eg (cmpLays P 0 _ W) hH hblk (by simp; omega)
  change Calls Tryz.prog 112 _ _ _ at hcon
  rw [show l.toArray.size = m by simp [hm]] at hcon
  refine hcon.mono ?_
  rintro r w' ⟨rfl, d', n, os, hp, hs, rfl⟩
  refine ⟨rfl, ?_⟩
  rw [show m = l.toArray.size by simp [hm]] at hp hs
  obtain rfl := srt_eq l d' hp hs
  have hl := (srtP_perm l).length_eq
  have hgr : (sortWorldK encP 2 W P 0 n (srtP l).toArray os).heap[P]? = some (.cells (putCells id 0 (flP (srtP l)).toArray cur) 170 (0, 0)) := by
    unfold sortWorldK putRowK putRow
    rw [flatK_eq]
    rw [heap_grow_old _ _ (by simpa [mapBlock, Sort.ahead] using hblk)]
    simp [mapBlock, Sort.ahead, Array.getElem?_modify, hr, onCells]
  refine ⟨⟨by rw [flP_length, hl, hm], .inr ⟨P, cap, _, rfl, hb, hgr, hle, hcm, by simp [putCells, hcs], ?_⟩⟩, O.new, O.ap.trans' (Y := [P]) ?_ (fun y hy => .inr (O.new y (by simp at hy; subst hy; rfl)))⟩
  · apply List.ext_getElem?
    intro k
    have hf := flP_length (srtP l)
    by_cases hk : k < m * 2
    · have hk2 : k < cur.size := by rw [hcs]; omega
      simp only [List.getElem?_take, hk, if_true, putCells, Array.getElem?_toList, Array.getElem?_mapIdx, Array.getElem?_eq_getElem hk2, Option.map_some]
      rw [if_pos ⟨Nat.zero_le _, by simp [hf]; omega⟩]
      simp only [id, Nat.sub_zero]
      rw [getElem!_pos _ k (by simp [hf]; omega)]
      simp
    · rw [List.getElem?_take, if_neg hk, List.getElem?_eq_none (by omega)]
  · refine ⟨rfl, rfl, rfl, ?_, fun k hk hx => ?_⟩
    · unfold sortWorldK putRowK putRow; rw [size_grow]; simp [mapBlock, Sort.ahead]
    · unfold sortWorldK putRowK putRow
      rw [heap_grow_old _ _ (by simpa [mapBlock, Sort.ahead] using hk)]
      have : P ≠ k := fun e => hx (by simp [e])
      simp [mapBlock, Sort.ahead, Array.getElem?_modify, this]
end Go.Proofs.YtpddokbjjhbfgaaGreat.rg
namespace Go.Proofs.YtpddokbjjhbfgaaGreat.rg
open Go.ChangeShapes Go.WideShapes Go.ChangeAt Go.RowKit Go.Sort
set_option linter.unusedVariables false
set_option linter.unusedSimpArgs false
set_option maxHeartbeats 4000000 in
set_option maxRecDepth 100000 in
theorem bsearch_ok (P m cap f : Nat) (l : List Pt) (W : World) (hm : Hid (m = l.length)) (hm1 : m ≤ 1000) (hP : P < W.heap.size) (hs : l.Pairwise (fun a b => ltP b a = false))
    (hc : ∀ i, i < l.length → W.cell? ⟨P, i * 2, none⟩ = some (.int .u32 ((l.getD i (0, 0)).1 : Nat)) ∧ W.cell? ⟨P, i * 2 + 1, none⟩ = some (.int .i64 ((l.getD i (0, 0)).2 : Nat))) :
    Calls Tryz.prog 109 #[.slice (some ⟨P, 0, none⟩) m cap, .agg #[.int .u32 (f : Nat), .int .i64 0], .func (.func 110) #[] #[]] W fun r w' => (∃ b, r = .returned (.tuple #[.int .i64 (begN l f : Nat), .bool b])) ∧ Gr W w' := by
  have HV : Hid (Gr W (W.alloc (.cells #[.int .u32 (f : Nat), .int .i64 0] 170))) := (Gr.refl W).alloc _
  have HB := beg_take l hs f
  have hble : begN l f ≤ m := by rw [hm.out]; exact List.countP_le_length
  obtain ⟨b, Hb⟩ : ∃ b, Hid (b = begN l f) := ⟨_, rfl⟩
  rw [← Hb.out] at HB hble ⊢
  go_enter Tryz.func109, Tryz.ntmps109
  go_wp2_with fail
  have r4 : ∀ X, Gr (W.alloc (.cells #[.int .u32 (f : Nat), .int .i64 0] 170)) X → X.cell? ⟨W.heap.size, 0, none⟩ = some (.int .u32 (f : Nat)) ∧ X.cell? ⟨W.heap.size, 1, none⟩ = some (.int .i64 0) := by
    intro X hX
    refine ⟨?_, ?_⟩ <;> rw [hX.cell _ (by simp)] <;> simp
  have rc : ∀ X, Gr (W.alloc (.cells #[.int .u32 (f : Nat), .int .i64 0] 170)) X → ∀ i, i < l.length → X.cell? ⟨P, i * 2, none⟩ = some (.int .u32 ((l.getD i (0, 0)).1 : Nat)) ∧ X.cell? ⟨P, i * 2 + 1, none⟩ = some (.int .i64 ((l.getD i (0, 0)).2 : Nat)) := by
    intro X hX i hi
    have a := HV.out.trans hX
    exact ⟨(a.cell _ hP).trans (hc i hi).1, (a.cell _ hP).trans (hc i hi).2⟩
  clear hc
  generalize hVV : W.alloc (.cells #[.int .u32 (f : Nat), .int .i64 0] 170) = V at *
  clear hVV
  go_loopw [9, 10] (fun u v wr => ∃ i j : Nat, u = .int .i64 i ∧ v = .int .i64 j ∧ i ≤ b ∧ b ≤ j ∧ j ≤ m ∧ Gr V wr) (fun u v _ => (intOf v).toNat - (intOf u).toNat)
  case atStart => exact ⟨0, m, rfl, rfl, Nat.zero_le _, hble, Nat.le_refl _, Gr.refl _⟩
  case round =>
    obtain ⟨i, j, rfl, rfl, hib, hbj, hjm, gR⟩ := hrel
    by_cases hlt : i < j
    · obtain ⟨h, Hh⟩ : ∃ h, Hid (h = (i + j) / 2) := ⟨_, rfl⟩
      have hh1 : i ≤ h := by rw [Hh.out]; omega
      have hh2 : h < j := by rw [Hh.out]; omega
      have eh : ((i : Int) + (j : Int)) / 2 = (h : Int) := by rw [Hh.out]; omega
      have hhl : h < l.length := by have := hm.out; omega
      have hhm : h < m := by omega
      obtain ⟨⟨x, y⟩, Hx⟩ : ∃ q : Pt, Hid (q = l.getD h (0, 0)) := ⟨_, rfl⟩
      have hd : decide (cfP (x, y) (f, 0) < 0) = decide (h < b) := by
        rw [cfP_lt]
        have e := HB h hhl
        have e2 : l[h] = (x, y) := by rw [Hx.out, List.getD_eq_getElem?_getD, List.getElem?_eq_getElem hhl]; rfl
        rw [e2] at e
        unfold ltP
        by_cases hb : h < b
        · simp [hb, e.2 hb]
        · have : ¬ x < f := fun hx => hb (e.1 hx)
          simp [hb, this]
      have k0 : ∀ X, Gr V X → X.cell? ⟨P, h * 2, none⟩ = some (.int .u32 (x : Nat)) := fun X g => by have := (rc X g h hhl).1; rwa [← Hx.out] at this
      have k1 : ∀ X, Gr V X → X.cell? ⟨P, h * 2 + 1, none⟩ = some (.int .i64 (y : Nat)) := fun X g => by have := (rc X g h hhl).2; rwa [← Hx.out] at this
      have k2 : ∀ X, Gr V X → X.cell? ⟨W.heap.size, 0, none⟩ = some (.int .u32 (f : Nat)) := fun X g => (r4 X g).1
      have k3 : ∀ X, Gr V X → X.cell? ⟨W.heap.size, 1, none⟩ = some (.int .i64 0) := fun X g => (r4 X g).2
      have HRC : Hid (∀ X, Gr V X → ∀ i, i < l.length → X.cell? ⟨P, i * 2, none⟩ = some (.int .u32 ((l.getD i (0, 0)).1 : Nat)) ∧ X.cell? ⟨P, i * 2 + 1, none⟩ = some (.int .i64 ((l.getD i (0, 0)).2 : Nat))) := rc
      clear rc r4 HB
      go_wp2_with fail
      have gB : Gr V wr.drew := gR.drew
      refine wp_region_held_drew (S := fun X => Gr V X) (by kernel_rfl) gB (fun hHeld => ?_)
      refine wpAnyH_take (i := 0) (oi := ⟨some 24, _, _, _, _, _⟩) (v := (.func (.func 110) #[] #[])) rfl (by kernel_rfl) (by kernel_rfl) (by kernel_rfl) (fun _ _ _ h => h) (Or.inl ⟨by rfl, ?_⟩) (by assumption) ?_
      · intro W hSW; go_simp
      simp only [Act.put, List.setIfInBounds_toArray, List.set_cons_zero, List.set_cons_succ]
      refine wpAnyH_take (i := 1) (oi := ⟨some 25, _, _, _, _, _⟩) (v := (.slice (some ⟨P, 0, none⟩) m cap)) rfl (by kernel_rfl) (by kernel_rfl) (by kernel_rfl) (fun _ _ _ h => h) (Or.inl ⟨by rfl, ?_⟩) (by assumption) ?_
      · intro W hSW; go_simp
      simp only [Act.put, List.setIfInBounds_toArray, List.set_cons_zero, List.set_cons_succ]
      refine wpAnyH_take (i := 2) (oi := ⟨some 26, _, _, _, _, _⟩) (v := (.int .i64 (h : Nat))) rfl (by kernel_rfl) (by kernel_rfl) (by kernel_rfl) (fun _ _ _ h => h) (Or.inl ⟨by rfl, ?_⟩) (by assumption) ?_
      · intro W hSW; go_simp
      simp only [Act.put, List.setIfInBounds_toArray, List.set_cons_zero, List.set_cons_succ]
      refine wpAnyH_take (i := 3) (oi := ⟨some 27, _, _, _, _, _⟩) (v := (.pointer (some ⟨P, h * 2, none⟩))) rfl (by kernel_rfl) (by kernel_rfl) (by kernel_rfl) (fun _ _ _ h => h) (Or.inl ⟨by rfl, ?_⟩) (by assumption) ?_
      · intro W hSW; go_simp
      simp only [Act.put, List.setIfInBounds_toArray, List.set_cons_zero, List.set_cons_succ]
      refine wpAnyH_take (i := 4) (oi := ⟨some 28, _, _, _, _, _⟩) (v := (.agg #[.int .u32 (x : Nat), .int .i64 (y : Nat)])) rfl (by kernel_rfl) (by kernel_rfl) (by kernel_rfl) (fun _ _ _ h => h) (Or.inl ⟨by rfl, ?_⟩) (by assumption) ?_
      · intro W hSW; go_simp
      simp only [Act.put, List.setIfInBounds_toArray, List.set_cons_zero, List.set_cons_succ]
      refine wpAnyH_take (i := 5) (oi := ⟨some 29, _, _, _, _, _⟩) (v := (.agg #[.int .u32 (f : Nat), .int .i64 0])) rfl (by kernel_rfl) (by kernel_rfl) (by kernel_rfl) (fun _ _ _ h => h) (Or.inl ⟨by rfl, ?_⟩) (by assumption) ?_
      · intro W hSW; go_simp
      simp only [Act.put, List.setIfInBounds_toArray, List.set_cons_zero, List.set_cons_succ]
      refine wpAnyH_ready (rs := [6]) (by kernel_rfl) (by simp) ?_
      refine AllReadyH.cons rfl (fun KK hKK => ?_) AllReadyH.nil
      go_simp
      refine (compare_ok (x, y) (f, 0) _).mono ?_
      rintro r w1 ⟨rfl, g1⟩
      dsimp only
      have g2 := gB.trans g1
      refine hKK.out _ _ (by assumption) (fun hHeld => ?_)
      clear hKK KK
      refine wpAnyH_take (i := 7) (oi := ⟨some 31, _, _, _, _, _⟩) (v := (.bool (decide (h < b)))) rfl (by kernel_rfl) (by kernel_rfl) (by kernel_rfl) (fun _ _ _ h => h) (Or.inl ⟨by rfl, ?_⟩) (by assumption) ?_
      · intro W hSW; go_simp
      simp only [Act.put, List.setIfInBounds_toArray, List.set_cons_zero, List.set_cons_succ]
      refine wpAnyH_done (by kernel_rfl) ?_ _
      by_cases hb : h < b
      · go_wp2_with fail
        go_roundw
        case rel => exact ⟨h + 1, j, by simp, rfl, by omega, hbj, hjm, by assumption⟩
        case measure => simp only [intOf]; omega
      · go_wp2_with fail
        go_roundw
        case rel => exact ⟨i, h, rfl, rfl, hib, by omega, by omega, by assumption⟩
        case measure => simp only [intOf]; omega
    · obtain rfl : i = b := by omega
      by_cases hbm : i < m
      · have hhl : i < l.length := by have := hm.out; omega
        obtain ⟨⟨x, y⟩, Hx⟩ : ∃ q : Pt, Hid (q = l.getD i (0, 0)) := ⟨_, rfl⟩
        have k0 : ∀ X, Gr V X → X.cell? ⟨P, i * 2, none⟩ = some (.int .u32 (x : Nat)) := fun X g => by have := (rc X g i hhl).1; rwa [← Hx.out] at this
        have k1 : ∀ X, Gr V X → X.cell? ⟨P, i * 2 + 1, none⟩ = some (.int .i64 (y : Nat)) := fun X g => by have := (rc X g i hhl).2; rwa [← Hx.out] at this
        have k2 : ∀ X, Gr V X → X.cell? ⟨W.heap.size, 0, none⟩ = some (.int .u32 (f : Nat)) := fun X g => (r4 X g).1
        have k3 : ∀ X, Gr V X → X.cell? ⟨W.heap.size, 1, none⟩ = some (.int .i64 0) := fun X g => (r4 X g).2
        clear rc r4 HB
        go_wp2_with fail
        have gB : Gr V wr.drew := gR.drew
        refine wp_region_held_drew (S := fun X => Gr V X) (by kernel_rfl) gB (fun hHeld => ?_)
        refine wpAnyH_take (i := 0) (oi := ⟨some 35, _, _, _, _, _⟩) (v := (.int .i64 (i : Nat))) rfl (by kernel_rfl) (by kernel_rfl) (by kernel_rfl) (fun _ _ _ h => h) (Or.inl ⟨by rfl, ?_⟩) (by assumption) ?_
        · intro W hSW; go_simp
        simp only [Act.put, List.setIfInBounds_toArray, List.set_cons_zero, List.set_cons_succ]
        refine wpAnyH_take (i := 1) (oi := ⟨some 36, _, _, _, _, _⟩) (v := (.int .i64 (i : Nat))) rfl (by kernel_rfl) (by kernel_rfl) (by kernel_rfl) (fun _ _ _ h => h) (Or.inl ⟨by rfl, ?_⟩) (by assumption) ?_
        · intro W hSW; go_simp
        simp only [Act.put, List.setIfInBounds_toArray, List.set_cons_zero, List.set_cons_succ]
        refine wpAnyH_take (i := 2) (oi := ⟨some 37, _, _, _, _, _⟩) (v := (.int .i64 (m : Nat))) rfl (by kernel_rfl) (by kernel_rfl) (by kernel_rfl) (fun _ _ _ h => h) (Or.inl ⟨by rfl, ?_⟩) (by assumption) ?_
        · intro W hSW; go_simp
        simp only [Act.put, List.setIfInBounds_toArray, List.set_cons_zero, List.set_cons_succ]
        refine wpAnyH_take (i := 3) (oi := ⟨some 38, _, _, _, _, _⟩) (v := (.bool true)) rfl (by kernel_rfl) (by kernel_rfl) (by kernel_rfl) (fun _ _ _ h => h) (Or.inl ⟨by rfl, ?_⟩) (by assumption) ?_
        · intro W hSW; go_simp
        simp only [Act.put, List.setIfInBounds_toArray, List.set_cons_zero, List.set_cons_succ]
        refine wpAnyH_take (i := 4) (oi := ⟨some 39, _, _, _, _, _⟩) (v := (.bool true)) rfl (by kernel_rfl) (by kernel_rfl) (by kernel_rfl) (fun _ _ _ h => h) (Or.inl ⟨by rfl, ?_⟩) (by assumption) ?_
        · intro W hSW; go_simp
        simp only [Act.put, List.setIfInBounds_toArray, List.set_cons_zero, List.set_cons_succ]
        refine wpAnyH_take (i := 5) (oi := ⟨some 40, _, _, _, _, _⟩) (v := (.func (.func 110) #[] #[])) rfl (by kernel_rfl) (by kernel_rfl) (by kernel_rfl) (fun _ _ _ h => h) (Or.inl ⟨by rfl, ?_⟩) (by assumption) ?_
        · intro W hSW; go_simp
        simp only [Act.put, List.setIfInBounds_toArray, List.set_cons_zero, List.set_cons_succ]
        refine wpAnyH_take (i := 6) (oi := ⟨some 41, _, _, _, _, _⟩) (v := (.slice (some ⟨P, 0, none⟩) m cap)) rfl (by kernel_rfl) (by kernel_rfl) (by kernel_rfl) (fun _ _ _ h => h) (Or.inl ⟨by rfl, ?_⟩) (by assumption) ?_
        · intro W hSW; go_simp
        simp only [Act.put, List.setIfInBounds_toArray, List.set_cons_zero, List.set_cons_succ]
        refine wpAnyH_take (i := 7) (oi := ⟨some 42, _, _, _, _, _⟩) (v := (.int .i64 (i : Nat))) rfl (by kernel_rfl) (by kernel_rfl) (by kernel_rfl) (fun _ _ _ h => h) (Or.inl ⟨by rfl, ?_⟩) (by assumption) ?_
        · intro W hSW; go_simp
        simp only [Act.put, List.setIfInBounds_toArray, List.set_cons_zero, List.set_cons_succ]
        refine wpAnyH_take (i := 8) (oi := ⟨some 43, _, _, _, _, _⟩) (v := (.pointer (some ⟨P, i * 2, none⟩))) rfl (by kernel_rfl) (by kernel_rfl) (by kernel_rfl) (fun _ _ _ h => h) (Or.inl ⟨by rfl, ?_⟩) (by assumption) ?_
        · intro W hSW; go_simp
        simp only [Act.put, List.setIfInBounds_toArray, List.set_cons_zero, List.set_cons_succ]
        refine wpAnyH_take (i := 9) (oi := ⟨some 44, _, _, _, _, _⟩) (v := (.agg #[.int .u32 (x : Nat), .int .i64 (y : Nat)])) rfl (by kernel_rfl) (by kernel_rfl) (by kernel_rfl) (fun _ _ _ h => h) (Or.inl ⟨by rfl, ?_⟩) (by assumption) ?_
        · intro W hSW; go_simp
        simp only [Act.put, List.setIfInBounds_toArray, List.set_cons_zero, List.set_cons_succ]
        refine wpAnyH_take (i := 10) (oi := ⟨some 45, _, _, _, _, _⟩) (v := (.agg #[.int .u32 (f : Nat), .int .i64 0])) rfl (by kernel_rfl) (by kernel_rfl) (by kernel_rfl) (fun _ _ _ h => h) (Or.inl ⟨by rfl, ?_⟩) (by assumption) ?_
        · intro W hSW; go_simp
        simp only [Act.put, List.setIfInBounds_toArray, List.set_cons_zero, List.set_cons_succ]
        refine wpAnyH_ready (rs := [11]) (by kernel_rfl) (by simp) ?_
        refine AllReadyH.cons rfl (fun KK hKK => ?_) AllReadyH.nil
        go_simp
        refine (compare_ok (x, y) (f, 0) _).mono ?_
        rintro r w1 ⟨rfl, g1⟩
        dsimp only
        have g2 := gB.trans g1
        refine hKK.out _ _ (by assumption) (fun hHeld => ?_)
        clear hKK KK
        refine wpAnyH_take (i := 12) (oi := ⟨some 47, _, _, _, _, _⟩) (v := (.bool (cfP (x, y) (f, 0) == 0))) rfl (by kernel_rfl) (by kernel_rfl) (by kernel_rfl) (fun _ _ _ h => h) (Or.inl ⟨by rfl, ?_⟩) (by assumption) ?_
        · intro W hSW; go_simp
        simp only [Act.put, List.setIfInBounds_toArray, List.set_cons_zero, List.set_cons_succ]
        refine wpAnyH_take (i := 13) (oi := ⟨some 48, _, _, _, _, _⟩) (v := (.bool (cfP (x, y) (f, 0) == 0))) rfl (by kernel_rfl) (by kernel_rfl) (by kernel_rfl) (fun _ _ _ h => h) (Or.inl ⟨by rfl, ?_⟩) (by assumption) ?_
        · intro W hSW; go_simp
        simp only [Act.put, List.setIfInBounds_toArray, List.set_cons_zero, List.set_cons_succ]
        refine wpAnyH_take (i := 14) (oi := ⟨some 6, _, _, _, _, _⟩) (v := (.int .i64 (i : Nat))) rfl (by kernel_rfl) (by kernel_rfl) (by kernel_rfl) (fun _ _ _ h => h) (Or.inl ⟨by rfl, ?_⟩) (by assumption) ?_
        · intro W hSW; go_simp
        simp only [Act.put, List.setIfInBounds_toArray, List.set_cons_zero, List.set_cons_succ]
        refine wpAnyH_take (i := 15) (oi := ⟨some 7, _, _, _, _, _⟩) (v := (.bool (cfP (x, y) (f, 0) == 0))) rfl (by kernel_rfl) (by kernel_rfl) (by kernel_rfl) (fun _ _ _ h => h) (Or.inl ⟨by rfl, ?_⟩) (by assumption) ?_
        · intro W hSW; go_simp
        simp only [Act.put, List.setIfInBounds_toArray, List.set_cons_zero, List.set_cons_succ]
        refine wpAnyH_done (by kernel_rfl) ?_ _
        go_wp2_with fail
        go_ret2
        exact ⟨⟨_, rfl⟩, HV.out.trans (by assumption)⟩
      · clear rc r4 HB
        go_wp2_with fail
        have gB : Gr V wr.drew := gR.drew
        refine wp_region_held_drew (S := fun X => Gr V X) (by kernel_rfl) gB (fun hHeld => ?_)
        refine wpAnyH_take (i := 0) (oi := ⟨some 35, _, _, _, _, _⟩) (v := (.int .i64 (i : Nat))) rfl (by kernel_rfl) (by kernel_rfl) (by kernel_rfl) (fun _ _ _ h => h) (Or.inl ⟨by rfl, ?_⟩) (by assumption) ?_
        · intro W hSW; go_simp
        simp only [Act.put, List.setIfInBounds_toArray, List.set_cons_zero, List.set_cons_succ]
        refine wpAnyH_take (i := 1) (oi := ⟨some 36, _, _, _, _, _⟩) (v := (.int .i64 (i : Nat))) rfl (by kernel_rfl) (by kernel_rfl) (by kernel_rfl) (fun _ _ _ h => h) (Or.inl ⟨by rfl, ?_⟩) (by assumption) ?_
        · intro W hSW; go_simp
        simp only [Act.put, List.setIfInBounds_toArray, List.set_cons_zero, List.set_cons_succ]
        refine wpAnyH_take (i := 2) (oi := ⟨some 37, _, _, _, _, _⟩) (v := (.int .i64 (m : Nat))) rfl (by kernel_rfl) (by kernel_rfl) (by kernel_rfl) (fun _ _ _ h => h) (Or.inl ⟨by rfl, ?_⟩) (by assumption) ?_
        · intro W hSW; go_simp
        simp only [Act.put, List.setIfInBounds_toArray, List.set_cons_zero, List.set_cons_succ]
        refine wpAnyH_take (i := 3) (oi := ⟨some 38, _, _, _, _, _⟩) (v := (.bool false)) rfl (by kernel_rfl) (by kernel_rfl) (by kernel_rfl) (fun _ _ _ h => h) (Or.inl ⟨by rfl, ?_⟩) (by assumption) ?_
        · intro W hSW; go_simp
        simp only [Act.put, List.setIfInBounds_toArray, List.set_cons_zero, List.set_cons_succ]
        refine wpAnyH_take (i := 4) (oi := ⟨some 39, _, _, _, _, _⟩) (v := (.bool false)) rfl (by kernel_rfl) (by kernel_rfl) (by kernel_rfl) (fun _ _ _ h => h) (Or.inl ⟨by rfl, ?_⟩) (by assumption) ?_
        · intro W hSW; go_simp
        simp only [Act.put, List.setIfInBounds_toArray, List.set_cons_zero, List.set_cons_succ]
        refine wpAnyH_take (i := 5) (oi := ⟨some 40, _, _, _, _, _⟩) (v := undef) rfl (by kernel_rfl) (by kernel_rfl) (by kernel_rfl) (fun _ _ _ h => h) (Or.inr ⟨by rfl, rfl⟩) (by assumption) ?_
        simp only [Act.put, List.setIfInBounds_toArray, List.set_cons_zero, List.set_cons_succ]
        refine wpAnyH_take (i := 6) (oi := ⟨some 41, _, _, _, _, _⟩) (v := undef) rfl (by kernel_rfl) (by kernel_rfl) (by kernel_rfl) (fun _ _ _ h => h) (Or.inr ⟨by rfl, rfl⟩) (by assumption) ?_
        simp only [Act.put, List.setIfInBounds_toArray, List.set_cons_zero, List.set_cons_succ]
        refine wpAnyH_take (i := 7) (oi := ⟨some 42, _, _, _, _, _⟩) (v := undef) rfl (by kernel_rfl) (by kernel_rfl) (by kernel_rfl) (fun _ _ _ h => h) (Or.inr ⟨by rfl, rfl⟩) (by assumption) ?_
        simp only [Act.put, List.setIfInBounds_toArray, List.set_cons_zero, List.set_cons_succ]
        refine wpAnyH_take (i := 8) (oi := ⟨some 43, _, _, _, _, _⟩) (v := undef) rfl (by kernel_rfl) (by kernel_rfl) (by kernel_rfl) (fun _ _ _ h => h) (Or.inr ⟨by rfl, rfl⟩) (by assumption) ?_
        simp only [Act.put, List.setIfInBounds_toArray, List.set_cons_zero, List.set_cons_succ]
        refine wpAnyH_take (i := 9) (oi := ⟨some 44, _, _, _, _, _⟩) (v := undef) rfl (by kernel_rfl) (by kernel_rfl) (by kernel_rfl) (fun _ _ _ h => h) (Or.inr ⟨by rfl, rfl⟩) (by assumption) ?_
        simp only [Act.put, List.setIfInBounds_toArray, List.set_cons_zero, List.set_cons_succ]
        refine wpAnyH_take (i := 10) (oi := ⟨some 45, _, _, _, _, _⟩) (v := undef) rfl (by kernel_rfl) (by kernel_rfl) (by kernel_rfl) (fun _ _ _ h => h) (Or.inr ⟨by rfl, rfl⟩) (by assumption) ?_
        simp only [Act.put, List.setIfInBounds_toArray, List.set_cons_zero, List.set_cons_succ]
        refine wpAnyH_take (i := 11) (oi := ⟨some 46, _, _, _, _, _⟩) (v := undef) rfl (by kernel_rfl) (by kernel_rfl) (by kernel_rfl) (fun _ _ _ h => h) (Or.inr ⟨by rfl, rfl⟩) (by assumption) ?_
        simp only [Act.put, List.setIfInBounds_toArray, List.set_cons_zero, List.set_cons_succ]
        refine wpAnyH_take (i := 12) (oi := ⟨some 47, _, _, _, _, _⟩) (v := undef) rfl (by kernel_rfl) (by kernel_rfl) (by kernel_rfl) (fun _ _ _ h => h) (Or.inr ⟨by rfl, rfl⟩) (by assumption) ?_
        simp only [Act.put, List.setIfInBounds_toArray, List.set_cons_zero, List.set_cons_succ]
        refine wpAnyH_take (i := 13) (oi := ⟨some 48, _, _, _, _, _⟩) (v := (.bool false)) rfl (by kernel_rfl) (by kernel_rfl) (by kernel_rfl) (fun _ _ _ h => h) (Or.inl ⟨by rfl, ?_⟩) (by assumption) ?_
        · intro W hSW; go_simp
        simp only [Act.put, List.setIfInBounds_toArray, List.set_cons_zero, List.set_cons_succ]
        refine wpAnyH_take (i := 14) (oi := ⟨some 6, _, _, _, _, _⟩) (v := (.int .i64 (i : Nat))) rfl (by kernel_rfl) (by kernel_rfl) (by kernel_rfl) (fun _ _ _ h => h) (Or.inl ⟨by rfl, ?_⟩) (by assumption) ?_
        · intro W hSW; go_simp
        simp only [Act.put, List.setIfInBounds_toArray, List.set_cons_zero, List.set_cons_succ]
        refine wpAnyH_take (i := 15) (oi := ⟨some 7, _, _, _, _, _⟩) (v := (.bool false)) rfl (by kernel_rfl) (by kernel_rfl) (by kernel_rfl) (fun _ _ _ h => h) (Or.inl ⟨by rfl, ?_⟩) (by assumption) ?_
        · intro W hSW; go_simp
        simp only [Act.put, List.setIfInBounds_toArray, List.set_cons_zero, List.set_cons_succ]
        refine wpAnyH_done (by kernel_rfl) ?_ _
        go_wp2_with fail
        go_ret2
        exact ⟨⟨_, rfl⟩, HV.out.trans (by assumption)⟩
end Go.Proofs.YtpddokbjjhbfgaaGreat.rg
namespace Go.Proofs.YtpddokbjjhbfgaaGreat.ds
open Go.ChangeShapes Go.WideShapes Go.ChangeAt Go.RowKit Go.Sort
set_option linter.unusedVariables false
set_option linter.unusedSimpArgs false

/-- within of the law -/
def wiI (v a b : Int) : Int := a + (if v < 0 then -(v + 1) else v) % (b - a + 1)
theorem wiI_lo (v a b : Int) (h : a ≤ b) : a ≤ wiI v a b ∧ wiI v a b ≤ b := by
  unfold wiI
  have h1 := Int.emod_nonneg (if v < 0 then -(v + 1) else v) (show b - a + 1 ≠ 0 by omega)
  have h2 := Int.emod_lt_of_pos (if v < 0 then -(v + 1) else v) (show 0 < b - a + 1 by omega)
  omega
set_option maxRecDepth 100000 in
theorem within_ok (w : World) (v a b : Int) (hv : -9223372036854775808 ≤ v ∧ v < 9223372036854775808) (ha : 0 ≤ a ∧ a ≤ b ∧ b ≤ 2000000) : Calls Tryz.prog 19 #[.int .i64 v, .int .i64 a, .int .i64 b] w fun r w' => r = .returned (.int .i64 (wiI v a b)) ∧ w' = w := by
  obtain ⟨u, Hu⟩ : ∃ u : Int, Hid (u = wiI v a b) := ⟨_, rfl⟩
  rw [← Hu.out]
  have e1 : IntKind.i64.wrap (b - a) = b - a := by rw [IntKind.wrap_i64]; omega
  have e2 : IntKind.i64.wrap (b - a + 1) = b - a + 1 := by rw [IntKind.wrap_i64]; omega
  have hz : ¬ (b - a + 1 = 0) := by omega
  have hl := wiI_lo v a b ha.2.1
  by_cases hlt : v < 0
  · have e3 : IntKind.i64.wrap (v + 1) = v + 1 := by rw [IntKind.wrap_i64]; omega
    have e4 : IntKind.i64.wrap (-(v + 1)) = -(v + 1) := by rw [IntKind.wrap_i64]; omega
    have e5 : (-(v + 1)).tmod (b - a + 1) = (-(v + 1)) % (b - a + 1) := Int.tmod_eq_emod_of_nonneg (by omega)
    have e6 : IntKind.i64.wrap (a + (-(v + 1)) % (b - a + 1)) = u := by rw [Hu.out, IntKind.wrap_i64]; unfold wiI at hl ⊢; rw [if_pos hlt] at hl ⊢; omega
    clear hl ha hv
    go_enter Tryz.func19, Tryz.ntmps19
    go_wp2_with fail
    go_ret
    exact ⟨rfl, rfl⟩
  · have e5 : v.tmod (b - a + 1) = v % (b - a + 1) := Int.tmod_eq_emod_of_nonneg (by omega)
    have e6 : IntKind.i64.wrap (a + v % (b - a + 1)) = u := by rw [Hu.out, IntKind.wrap_i64]; unfold wiI at hl ⊢; rw [if_neg hlt] at hl ⊢; omega
    clear hl ha hv
    go_enter Tryz.func19, Tryz.ntmps19
    go_wp2_with fail
    go_ret
    exact ⟨rfl, rfl⟩
end Go.Proofs.YtpddokbjjhbfgaaGreat.ds
