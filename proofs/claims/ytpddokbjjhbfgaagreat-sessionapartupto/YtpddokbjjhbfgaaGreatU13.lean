import Derived.Test.YtpddokbjjhbfgaaGreatChecked
import Derived.WalkKit
import Derived.ProofKit
import Derived.Maps.OwnSet
import Derived.Maps.RangeWalk
import Derived.DeepKeys4
import Derived.MapViews
import Derived.StringKeys
import Derived.Lib.TrailingZeros
import Derived.OpenShut
import Derived.Deep.QuietTactic
import Derived.BigQuiet
import Derived.BigRegion
import Derived.Laws.CopyOwn
import Derived.Laws.Bits64b
import Derived.Laws.MathBits
import Derived.Laws.ShiftsVarLaws
import Derived.WalkSmall
import Derived.Laws.ResultCell
import Derived.Lib.BitFns
import Derived.Laws.StructEq
import Derived.Deep.RegionHeld
import Derived.ArgAppend
import Derived.Deep.RegionLaw
import Derived.Deep.DeepAppendRoom
import Derived.Sort.WalkA
import Derived.Laws.Strings
import Derived.Deep.CutBlock
import Derived.Great.BuildSlice
import Derived.Laws.BytesString
import Derived.Laws.AppendOwnNone
import Derived.Lib.Overlaps
import Derived.Lib.AppendZerosOnto
import Derived.Laws.NewBlocks
import Derived.Laws.Externs
import Derived.Laws.IdiomCopy
import Derived.RangeFuncNested
import Derived.RangeFuncBound
import Derived.RangeFuncCalls
import Derived.RangeFuncLeaves
import Derived.Shelf.Abstract
import Derived.Shelf.RegionOpen
import Derived.OwnWalkIn
import Derived.TacticsInMore
import Derived.LoopNIn
import Derived.LoopIn
import Derived.Deep.CutRange
import Derived.Deep.OwnRows
import Derived.Lib.Walk
import Derived.Lib.SliceRun
import GoSem.Claim
import GoSem.ClaimJoined
import GoSem.ClaimMapViews
import Derived.JoinedTies
import Derived.KernelRfl
import Derived.Lib.LaidTab
import Derived.JoinedCond
import Derived.ShutString
import Derived.ChangeOld
import Derived.Below
import Derived.Carry
import Derived.ChangeSlices
import Derived.Deep.Slices
import Derived.Deep.DeepHandedRow
import Derived.RowKit
import Derived.ChangeShapes
import Derived.SizedLaws
import Derived.ChangeMaps5
import Derived.OrdersHeld
import Derived.Lib.AppendStr
import Derived.Lib.ConvBytes
import Derived.Deep.RegionHeld3
import Derived.Deep.MidRow
import Derived.Laws.BitsAllLaws
import Derived.Sort.Grow
import Derived.Shelf.SlSortCmp.WholeK
import Derived.Shelf.Lay
import Derived.Ground.SlsfProg
import Derived.Sort.LotA
import Derived.Sort.MapsRangeIn
import Derived.RangeFuncSeq
import Derived.RangeFuncKeeps
import Derived.Maps.AppendAt
import Derived.OwnWalk
import Derived.Test.YtpddokbjjhbfgaaGreatRows
import Derived.Test.YtpddokbjjhbfgaaGreatU7
import Derived.Test.YtpddokbjjhbfgaaGreatU9
import Derived.Test.YtpddokbjjhbfgaaGreatU12
namespace Go.Proofs.YtpddokbjjhbfgaaGreat.rg.dt
open Go.ChangeShapes Go.WideShapes Go.ChangeAt Go.RowKit Go.Sort Go.Shelf
shelf_lay_g SlLaysF0.n6 Slsf 6 at Tryz 58 as sortDt
set_option linter.unusedVariables false
set_option linter.unusedSimpArgs false
abbrev Pt := Int × Int
def ltP (a b : Pt) : Bool := decide (a.1 < b.1) || (decide (a.1 = b.1) && decide (a.2 < b.2))
def insP (x : Pt) : List Pt → List Pt
  | [] => [x]
  | y :: r => if ltP x y then x :: y :: r else y :: insP x r
def srtP : List Pt → List Pt
  | [] => []
  | x :: r => insP x (srtP r)
theorem ltP_iff (a b : Pt) : ltP a b = true ↔ a.1 < b.1 ∨ (a.1 = b.1 ∧ a.2 < b.2) := by simp [ltP]
theorem ltP_not (a b : Pt) : ltP a b = false ↔ ¬ (a.1 < b.1 ∨ (a.1 = b.1 ∧ a.2 < b.2)) := by rw [← ltP_iff]; simp
theorem insP_perm (x : Pt) : ∀ l, (insP x l).Perm (x :: l)
  | [] => List.Perm.refl _
  | y :: r => by
    rw [insP]; split
    · exact List.Perm.refl _
    · exact ((insP_perm x r).cons y).trans (List.Perm.swap x y r)
theorem srtP_perm : ∀ l, (srtP l).Perm l
  | [] => List.Perm.refl _
  | x :: r => (insP_perm x (srtP r)).trans ((srtP_perm r).cons x)
theorem insP_sorted (x : Pt) : ∀ l, l.Pairwise (fun a b => ltP b a = false) → (insP x l).Pairwise (fun a b => ltP b a = false)
  | [], _ => by simp [insP]
  | y :: r, h => by
    rw [insP]
    rw [List.pairwise_cons] at h
    split
    · rename_i hx
      rw [ltP_iff] at hx
      refine List.pairwise_cons.2 ⟨fun z hz => ?_, List.pairwise_cons.2 h⟩
      rcases List.mem_cons.1 hz with rfl | hz
      · rw [ltP_not]; omega
      · have := h.1 z hz
        rw [ltP_not] at this ⊢; omega
    · rename_i hx
      refine List.pairwise_cons.2 ⟨fun z hz => ?_, insP_sorted x r h.2⟩
      rcases List.mem_cons.1 ((insP_perm x r).mem_iff.1 hz) with rfl | hz
      · simpa using hx
      · exact h.1 z hz
theorem srtP_sorted : ∀ l, (srtP l).Pairwise (fun a b => ltP b a = false)
  | [] => List.Pairwise.nil
  | x :: r => insP_sorted x _ (srtP_sorted r)

def cmpI (a b : Int) : Int := if a < b then -1 else if b < a then 1 else 0
/-- what comparePoints says -/
def cfP (x y : Pt) : Int := if cmpI x.1 y.1 ≠ 0 then cmpI x.1 y.1 else cmpI x.2 y.2
theorem cfP_lt (x y : Pt) : decide (cfP x y < 0) = ltP x y := by
  unfold cfP cmpI ltP
  rcases Int.lt_trichotomy x.1 y.1 with h | h | h
  · have : ¬ y.1 < x.1 := by omega
    simp [h]
  · have h1 : ¬ x.1 < y.1 := by omega
    have h2 : ¬ y.1 < x.1 := by omega
    simp only [h1, h2, if_false, h]
    by_cases h3 : x.2 < y.2
    · simp [h3]
    · by_cases h4 : y.2 < x.2 <;> simp [h3, h4]
  · have h1 : ¬ x.1 < y.1 := by omega
    have h2 : ¬ x.1 = y.1 := by omega
    simp [h, h1, h2]
theorem cmp47 (a b : Int) (w : World) : Calls Tryz.prog 61 #[.int .i64 a, .int .i64 b] w fun r w' => r = .returned (.int .i64 (cmpI a b)) ∧ w' = w := by
  unfold cmpI
  by_cases h1 : a < b
  · rw [if_pos h1]
    go_enter Tryz.func61, Tryz.ntmps61
    go_wp2_with (go_at_call 82; refine (nan54 _ _).mono ?_; rintro r w1 ⟨rfl, rfl⟩)
    go_ret
    exact ⟨rfl, rfl⟩
  · rw [if_neg h1]
    by_cases h2 : b < a
    · rw [if_pos h2]
      go_enter Tryz.func61, Tryz.ntmps61
      go_wp2_with (go_at_call 82; refine (nan54 _ _).mono ?_; rintro r w1 ⟨rfl, rfl⟩)
      go_ret
      exact ⟨rfl, rfl⟩
    · rw [if_neg h2]
      go_enter Tryz.func61, Tryz.ntmps61
      go_wp2_with (go_at_call 82; refine (nan54 _ _).mono ?_; rintro r w1 ⟨rfl, rfl⟩)
      go_ret
      exact ⟨rfl, rfl⟩
set_option maxHeartbeats 4000000 in
set_option maxRecDepth 400000000 in
theorem compare_ok (x y : Pt) (w : World) : Calls Tryz.prog 40 #[.agg #[.int .i64 x.1, .int .i64 x.2], .agg #[.int .i64 y.1, .int .i64 y.2]] w fun r w' => r = .returned (.int .i64 (cfP x y)) ∧ Gr w w' := by
  have HV : Hid (Gr w ((w.alloc (.cells #[.int .i64 x.1, .int .i64 x.2] 34)).alloc (.cells #[.int .i64 y.1, .int .i64 y.2] 34))) := ((Gr.refl w).alloc _).alloc _
  have k0 : ∀ W, Gr ((w.alloc (.cells #[.int .i64 x.1, .int .i64 x.2] 34)).alloc (.cells #[.int .i64 y.1, .int .i64 y.2] 34)) W → W.cell? ⟨w.heap.size, 0, none⟩ = some (.int .i64 x.1) ∧ W.cell? ⟨w.heap.size, 1, none⟩ = some (.int .i64 x.2) ∧ W.cell? ⟨w.heap.size + 1, 0, none⟩ = some (.int .i64 y.1) ∧ W.cell? ⟨w.heap.size + 1, 1, none⟩ = some (.int .i64 y.2) := by
    intro W hW
    refine ⟨?_, ?_, ?_, ?_⟩ <;> rw [hW.cell _ (by simp <;> omega)] <;> simp
  go_enter Tryz.func40, Tryz.ntmps40
  go_wp2_with fail
  generalize (w.alloc (.cells #[.int .i64 x.1, .int .i64 x.2] 34)).alloc (.cells #[.int .i64 y.1, .int .i64 y.2] 34) = V at *
  have r0 : ∀ W, Gr V W → W.cell? ⟨w.heap.size, 0, none⟩ = some (.int .i64 x.1) := fun W h => (k0 W h).1
  have r1 : ∀ W, Gr V W → W.cell? ⟨w.heap.size, 1, none⟩ = some (.int .i64 x.2) := fun W h => (k0 W h).2.1
  have r2 : ∀ W, Gr V W → W.cell? ⟨w.heap.size + 1, 0, none⟩ = some (.int .i64 y.1) := fun W h => (k0 W h).2.2.1
  have r3 : ∀ W, Gr V W → W.cell? ⟨w.heap.size + 1, 1, none⟩ = some (.int .i64 y.2) := fun W h => (k0 W h).2.2.2
  clear k0
  have gB : Gr V V.drew := (Gr.refl V).drew
  refine wp_region_held_drew (S := fun W => Gr V W) (by kernel_rfl) gB (fun hHeld => ?_)
  refine wpAnyH_take (i := 0) (oi := ⟨some 5, _, _, _, _, _⟩) (v := (.pointer (some ⟨w.heap.size, 0, none⟩))) rfl (by kernel_rfl) (by kernel_rfl) (by kernel_rfl) (fun _ _ _ h => h) (Or.inl ⟨by rfl, ?_⟩) (by assumption) ?_
  · intro W hSW; go_simp
  simp only [Act.put, List.setIfInBounds_toArray, List.set_cons_zero, List.set_cons_succ]
  refine wpAnyH_take (i := 1) (oi := ⟨some 6, _, _, _, _, _⟩) (v := (.int .i64 x.1)) rfl (by kernel_rfl) (by kernel_rfl) (by kernel_rfl) (fun _ _ _ h => h) (Or.inl ⟨by rfl, ?_⟩) (by assumption) ?_
  · intro W hSW; go_simp
  simp only [Act.put, List.setIfInBounds_toArray, List.set_cons_zero, List.set_cons_succ]
  refine wpAnyH_take (i := 2) (oi := ⟨some 7, _, _, _, _, _⟩) (v := (.pointer (some ⟨(w.heap.size + 1), 0, none⟩))) rfl (by kernel_rfl) (by kernel_rfl) (by kernel_rfl) (fun _ _ _ h => h) (Or.inl ⟨by rfl, ?_⟩) (by assumption) ?_
  · intro W hSW; go_simp
  simp only [Act.put, List.setIfInBounds_toArray, List.set_cons_zero, List.set_cons_succ]
  refine wpAnyH_take (i := 3) (oi := ⟨some 8, _, _, _, _, _⟩) (v := (.int .i64 y.1)) rfl (by kernel_rfl) (by kernel_rfl) (by kernel_rfl) (fun _ _ _ h => h) (Or.inl ⟨by rfl, ?_⟩) (by assumption) ?_
  · intro W hSW; go_simp
  simp only [Act.put, List.setIfInBounds_toArray, List.set_cons_zero, List.set_cons_succ]
  refine wpAnyH_take (i := 5) (oi := ⟨some 10, _, _, _, _, _⟩) (v := (.pointer (some ⟨w.heap.size, 1, none⟩))) rfl (by kernel_rfl) (by kernel_rfl) (by kernel_rfl) (fun _ _ _ h => h) (Or.inl ⟨by rfl, ?_⟩) (by assumption) ?_
  · intro W hSW; go_simp
  simp only [Act.put, List.setIfInBounds_toArray, List.set_cons_zero, List.set_cons_succ]
  refine wpAnyH_take (i := 6) (oi := ⟨some 11, _, _, _, _, _⟩) (v := (.int .i64 x.2)) rfl (by kernel_rfl) (by kernel_rfl) (by kernel_rfl) (fun _ _ _ h => h) (Or.inl ⟨by rfl, ?_⟩) (by assumption) ?_
  · intro W hSW; go_simp
  simp only [Act.put, List.setIfInBounds_toArray, List.set_cons_zero, List.set_cons_succ]
  refine wpAnyH_take (i := 7) (oi := ⟨some 12, _, _, _, _, _⟩) (v := (.pointer (some ⟨(w.heap.size + 1), 1, none⟩))) rfl (by kernel_rfl) (by kernel_rfl) (by kernel_rfl) (fun _ _ _ h => h) (Or.inl ⟨by rfl, ?_⟩) (by assumption) ?_
  · intro W hSW; go_simp
  simp only [Act.put, List.setIfInBounds_toArray, List.set_cons_zero, List.set_cons_succ]
  refine wpAnyH_take (i := 8) (oi := ⟨some 13, _, _, _, _, _⟩) (v := (.int .i64 y.2)) rfl (by kernel_rfl) (by kernel_rfl) (by kernel_rfl) (fun _ _ _ h => h) (Or.inl ⟨by rfl, ?_⟩) (by assumption) ?_
  · intro W hSW; go_simp
  simp only [Act.put, List.setIfInBounds_toArray, List.set_cons_zero, List.set_cons_succ]
  refine wpAnyH_ready (rs := [4]) (by kernel_rfl) (by simp) ?_
  refine AllReadyH.cons rfl (fun KK hKK => ?_) AllReadyH.nil
  go_simp
  refine (cmp47 _ _ _).mono ?_
  rintro r w1 ⟨rfl, rfl⟩
  dsimp only
  refine hKK.out _ _ (by assumption) (fun hHeld => ?_)
  clear hKK KK
  refine wpAnyH_ready (rs := [9]) (by kernel_rfl) (by simp) ?_
  refine AllReadyH.cons rfl (fun KK hKK => ?_) AllReadyH.nil
  go_simp
  refine (cmp47 _ _ _).mono ?_
  rintro r w1 ⟨rfl, rfl⟩
  dsimp only
  refine hKK.out _ _ (by assumption) (fun hHeld => ?_)
  clear hKK KK
  refine wpAnyH_ready (rs := [10]) (by kernel_rfl) (by simp) ?_
  refine AllReadyH.cons rfl (fun KK hKK => ?_) AllReadyH.nil
  go_simp
  have gA := gB.alloc (.cells #[.int .i64 (cmpI x.1 y.1), .int .i64 (cmpI x.2 y.2)] 3)
  refine hKK.out _ _ (by assumption) (fun hHeld => ?_)
  clear hKK KK
  refine wpAnyH_ready (rs := [11]) (by kernel_rfl) (by simp) ?_
  refine AllReadyH.cons rfl (fun KK hKK => ?_) AllReadyH.nil
  go_simp
  refine (or45 _ _ (cmpI x.1 y.1) (cmpI x.2 y.2) (cfP x y) rfl _ (by show (V.alloc _).cell? _ = _; simp) (by show (V.alloc _).cell? _ = _; simp)).mono ?_
  rintro r w1 ⟨rfl, rfl⟩
  dsimp only
  refine hKK.out _ _ (by assumption) (fun hHeld => ?_)
  clear hKK KK
  refine wpAnyH_take (i := 12) (oi := ⟨some 4, _, _, _, _, _⟩) (v := (.int .i64 (cfP x y))) rfl (by kernel_rfl) (by kernel_rfl) (by kernel_rfl) (fun _ _ _ h => h) (Or.inl ⟨by rfl, ?_⟩) (by assumption) ?_
  · intro W hSW; go_simp
  simp only [Act.put, List.setIfInBounds_toArray, List.set_cons_zero, List.set_cons_succ]
  refine wpAnyH_done (by kernel_rfl) ?_ _
  go_wp2_with fail
  go_ret
  exact ⟨rfl, HV.out.trans (by assumption)⟩
/-- points, flat -/
def flP (ps : List Pt) : List Value := ps.flatMap fun d => [.int .i64 d.1, .int .i64 d.2]
theorem flP_length (ps : List Pt) : (flP ps).length = ps.length * 2 := by
  induction ps with
  | nil => rfl
  | cons e l ih => simp only [flP, List.flatMap_cons, List.length_append, List.length_cons, List.length_nil] at *; omega
theorem flP_get (ps : List Pt) : ∀ (k : Nat), k < ps.length → (flP ps)[k * 2]? = some (.int .i64 (ps.getD k (0, 0)).1) ∧ (flP ps)[k * 2 + 1]? = some (.int .i64 (ps.getD k (0, 0)).2) := by
  induction ps with
  | nil => intro k hk; simp at hk
  | cons e l ih =>
    intro k hk
    match k with
    | 0 => exact ⟨rfl, rfl⟩
    | k + 1 =>
      have := ih k (by simpa using hk)
      rw [show (k + 1) * 2 = k * 2 + 2 from by omega]
      exact this
theorem flP_append (ps qs : List Pt) : flP ps ++ flP qs = flP (ps ++ qs) := by simp [flP]
theorem flP_one {ps : List Pt} {u : Value} (h : u ∈ flP ps) : u.oneCell' = true := by
  simp only [flP, List.mem_flatMap] at h
  obtain ⟨d, _, h⟩ := h
  simp at h
  rcases h with rfl | rfl <;> rfl
theorem info34 : (Tryz.prog.info? 34).map (fun i => (i.zero, i.size, i.bytes)) = some (some (.agg #[.int .i64 0, .int .i64 0]), 2, 16) := by kernel_rfl
/-- points of the call's own -/
abbrev OwnP (w w' : World) (p : Option Addr) (n cap : Nat) (ps : List Pt) : Prop := OwnR 34 2 w w' p n cap (flP ps)
theorem own_cell {w w' : World} {P n cap : Nat} {ps : List Pt} (h : OwnP w w' (some ⟨P, 0, none⟩) n cap ps) (j : Nat) (hj : j < ps.length * 2) : w'.cell? ⟨P, j, none⟩ = (flP ps)[j]? := h.own.cellAt _ (by have := h.own.1; rw [flP_length] at this; omega)
theorem ownp_append {w W : World} {p : Option Addr} {n cap : Nat} {ps : List Pt} (h : OwnP w W p n cap ps) (hn : n ≤ 4000000) (ty : TypeId) (ad : Addr) (x : Pt) (h0 : W.cell? (ad.add 0) = some (.int .i64 x.1)) (h1 : W.cell? (ad.add 1) = some (.int .i64 x.2)) :
    ∃ p' cap' w', (Builtin.append_ #[50, 50] ty #[.slice p n cap, .slice (some ad) 1 1]).run Tryz.prog W = .ok (.slice p' (n + 1) cap') w' ∧ OwnP w w' p' (n + 1) cap' (ps ++ [x]) := by
  obtain ⟨i0, hi, hz0, hz1, hz2⟩ := info_parts info34
  obtain ⟨p', cap', w', hrun, r1, _, _⟩ := OwnR.append (ty := ty) Tryz.underlying50 hi hz0 hz1 hz2 rfl (by decide) h ad 1 1 [.int .i64 x.1, .int .i64 x.2] (by decide) rfl
    (by
      intro j u hj
      match j, hj with
      | 0, hj => simp at hj; subst hj; exact h0
      | 1, hj => simp at hj; subst hj; exact h1)
    (by intro u hu; simp at hu; rcases hu with rfl | rfl <;> rfl) (by unfold maxLen; omega) (by omega)
  refine ⟨p', cap', w', hrun, ?_⟩
  show OwnR 34 2 w w' p' (n + 1) cap' (flP (ps ++ [x]))
  rw [← flP_append]
  exact r1
def encP (x : Pt) : List Value := [.int .i64 x.1, .int .i64 x.2]
theorem swoP : SWO (ltOf cfP) where
  irrefl x := by show decide (cfP x x < 0) = false; rw [cfP_lt, ltP_not]; omega
  trans x y z h1 h2 := by
    have e : ∀ a b, ltOf cfP a b = ltP a b := fun a b => cfP_lt a b
    rw [e, ltP_iff] at *; omega
  ntrans x y z h1 h2 := by
    have e : ∀ a b, ltOf cfP a b = ltP a b := fun a b => cfP_lt a b
    rw [e, ltP_not] at *; omega
theorem flatK_eq (l : List Pt) : flatK encP 2 l.toArray = (flP l).toArray := by
  refine ext_get! (by simp [flP_length]) fun t ht => ?_
  have ht' : t < l.length * 2 := by simpa using ht
  rw [get_flatK _ _ _ _ (by simpa using ht')]
  have hq : t / 2 < l.length := by omega
  obtain ⟨c0, c1⟩ := flP_get l (t / 2) hq
  have ea : (l.toArray)[t / 2]! = l.getD (t / 2) (0, 0) := by
    rw [getElem!_pos _ _ (by simpa using hq), List.getD_eq_getElem?_getD, List.getElem?_eq_getElem hq]; simp
  rw [ea]
  have hb : (flP l).toArray[t]! = ((flP l)[t]?).getD default := by
    rw [Array.getElem!_eq_getD, Array.getD_eq_getD_getElem?]; simp
  rw [hb]
  rcases Nat.mod_two_eq_zero_or_one t with h | h
  · rw [h, show (flP l)[t]? = (flP l)[t / 2 * 2]? from by rw [show t / 2 * 2 = t by omega], c0]; rfl
  · rw [h, show (flP l)[t]? = (flP l)[t / 2 * 2 + 1]? from by rw [show t / 2 * 2 + 1 = t by omega], c1]; rfl
theorem perm_srt (l : List Pt) : PermIn 0 l.toArray.size l.toArray (srtP l).toArray := by
  have hp := srtP_perm l
  have hl := hp.length_eq
  refine ⟨by simpa using hl, fun i hi => ?_, ?_⟩
  · have hi' : l.length ≤ i := by simpa using hi
    rw [getElem!_neg _ i (by simp; omega), getElem!_neg _ i (by simp; omega)]
  · have e1 : ((srtP l).toArray.extract 0 l.toArray.size).toList = srtP l := by simp [← hl]
    have e2 : (l.toArray.extract 0 l.toArray.size).toList = l := by simp
    rw [e1, e2]; exact hp
theorem sorted_srt (l : List Pt) : SortedIn (ltOf cfP) 0 l.toArray.size (srtP l).toArray := by
  have hl := (srtP_perm l).length_eq
  intro i j _ hij hj
  have hj' : j < l.length := by simpa using hj
  have hs := List.pairwise_iff_getElem.1 (srtP_sorted l) i j (by omega) (by omega) hij
  rw [getElem!_pos _ j (by simp; omega), getElem!_pos _ i (by simp; omega)]
  show decide (cfP _ _ < 0) = false
  rw [cfP_lt]
  simpa using hs
theorem total_lt (x y : Pt) (h1 : ltOf cfP x y = false) (h2 : ltOf cfP y x = false) : x = y := by
  have e : ∀ a b, ltOf cfP a b = ltP a b := fun a b => cfP_lt a b
  rw [e, ltP_not] at *
  obtain ⟨a, b⟩ := x; obtain ⟨c, d⟩ := y
  simp only at h1 h2
  have : a = c := by omega
  have : b = d := by omega
  subst_vars; rfl
theorem srt_eq (l : List Pt) (d' : Array Pt) (hp : PermIn 0 l.toArray.size l.toArray d') (hs : SortedIn (ltOf cfP) 0 l.toArray.size d') : d' = (srtP l).toArray := by
  have h1 := sorted_unique_holds swoP total_lt l.toArray d' hp hs
  have h2 := sorted_unique_holds swoP total_lt l.toArray (srtP l).toArray (perm_srt l) (sorted_srt l)
  exact Array.toList_inj.1 (h1.trans h2.symm)
theorem cmpLays (blk off size : Nat) (w : World) : CmpLays Tryz.prog 40 #[] encP 2 cfP blk off size w :=
  fun m os dk hs x y => compare_ok x y _
set_option maxHeartbeats 4000000000 in
theorem sort_ok {w W : World} {P m cap : Nat} {l : List Pt} (O : OwnP w W (some ⟨P, 0, none⟩) m cap l) (hm : m = l.length) (h0 : m ≤ 4000000) :
    Calls Tryz.prog 58 #[.slice (some ⟨P, 0, none⟩) m cap, .func (.func 40) #[] #[]] W fun r w' => r = .returned (.tuple #[]) ∧ OwnP w w' (some ⟨P, 0, none⟩) m cap (srtP l) := by
  have eg : ∀ args w, (callFunc 40 args).run Tryz.prog w = .ok (.enter 40 args) w := enters_of Tryz.func40 (by kernel_rfl) rfl
  obtain ⟨hxl, ⟨hv, _⟩ | ⟨g, cap', cur, hv, hb, hr, hle, hcm, hcs, htk⟩⟩ := id O.own
  · cases hv
  simp only [Value.slice.injEq, Option.some.injEq, Addr.mk.injEq, and_true, true_and] at hv
  obtain ⟨rfl, rfl⟩ := hv
  have hblk : P < W.heap.size := lt_of_heap hr
  have hH : HoldsK encP 2 W P 0 l.toArray := by
    intro j hj
    rw [flatK_eq] at hj ⊢
    have hj' : j < l.length * 2 := by simpa [flP_length] using hj
    refine ⟨?_, ?_⟩
    · rw [Nat.zero_add, own_cell O j hj']
      rw [getElem!_pos _ j hj]; simp
    · simp [World.frozen?, hr]
  have hcon := AnyQ.slices_SortFunc sortDt 2 Tryz.isAgg34 Tryz.sizeOf34 encP (fun _ => rfl) (fun x v hv => by simp [encP] at hv; rcases hv with rfl | rfl <;> rfl) cfP swoP 40 #[] P 0 cap l.toArray W eg (cmpLays P 0 _ W) hH hblk (by simp; omega)
  change Calls Tryz.prog 58 _ _ _ at hcon
  rw [show l.toArray.size = m by simp [hm]] at hcon
  refine hcon.mono ?_
  rintro r w' ⟨rfl, d', n, os, hp, hs, rfl⟩
  refine ⟨rfl, ?_⟩
  rw [show m = l.toArray.size by simp [hm]] at hp hs
  obtain rfl := srt_eq l d' hp hs
  have hl := (srtP_perm l).length_eq
  have hgr : (sortWorldK encP 2 W P 0 n (srtP l).toArray os).heap[P]? = some (.cells (putCells id 0 (flP (srtP l)).toArray cur) 34 (0, 0)) := by
    unfold sortWorldK putRowK putRow
    rw [flatK_eq]
    rw [heap_grow_old _ _ (by simpa [mapBlock, Sort.ahead] using hblk)]
    simp [mapBlock, Sort.ahead, Array.getElem?_modify, hr, onCells]
  refine ⟨⟨by rw [flP_length, hl, hm], .inr ⟨P, cap, _, rfl, hb, hgr, hle, hcm, by simp [putCells, hcs], ?_⟩⟩, O.new, O.ap.trans' (Y := [P]) ?_ (fun y hy => .inr (O.new y (by simp at hy; subst hy; rfl)))⟩
  · apply List.ext_getElem?
    intro k
    have hf := flP_length (srtP l)
    by_cases hk : k < m * 2
    · have hk2 : k < cur.size := by rw [hcs]; omega
      simp only [List.getElem?_take, hk, if_true, putCells, Array.getElem?_toList, Array.getElem?_mapIdx, Array.getElem?_eq_getElem hk2, Option.map_some]
      rw [if_pos ⟨Nat.zero_le _, by simp [hf]; omega⟩]
      simp only [id, Nat.sub_zero]
      rw [getElem!_pos _ k (by simp [hf]; omega)]
      simp
    · rw [List.getElem?_take, if_neg hk, List.getElem?_eq_none (by omega)]
  · refine ⟨rfl, rfl, rfl, ?_, fun k hk hx => ?_⟩
    · unfold sortWorldK putRowK putRow; rw [size_grow]; simp [mapBlock, Sort.ahead]
    · unfold sortWorldK putRowK putRow
      rw [heap_grow_old _ _ (by simpa [mapBlock, Sort.ahead] using hk)]
      have : P ≠ k := fun e => hx (by simp [e])
      simp [mapBlock, Sort.ahead, Array.getElem?_modify, this]
end Go.Proofs.YtpddokbjjhbfgaaGreat.rg.dt
namespace Go.Proofs.YtpddokbjjhbfgaaGreat.ds
open Go.ChangeShapes Go.WideShapes Go.ChangeAt Go.RowKit Go.Sort
open Go.Maps (Keyed)
set_option linter.unusedVariables false
set_option linter.unusedSimpArgs false

theorem ap_grown {w w' : World} {row : Option Nat} (h : w.grownBy w' row) : Apart row.toList w w' := ⟨h.os, h.tape, h.output, h.size, fun k hk hx => h.block k hk (fun e => hx (by rw [← e]; simp))⟩
/-- a set has a dot -/
noncomputable def hz (xs : List S) (d : Dt) : Bool := hasv (norm xs) d.1 d.2
theorem SetAt.kept0 {w w' : World} {b : Nat} {l : List Dt} {N : Nat} (h : SetAt w b l N) (a : Apart [] w w') : SetAt w' b l N := h.kept (a.block b h.lt (by simp))
set_option maxHeartbeats 4000000 in
set_option maxRecDepth 100000 in
theorem within_some {w : World} {h : Nat} {c : Int} {l : List Dt} {N : Nat} (hs : SetAt w h l N) {p : Option Addr} {n cap : Nat} {xs : List S} (hL : L w p n xs) :
    Calls Tryz.prog 36 #[.agg #[.map (some h), .int .i64 c], .slice p n cap] w fun r w' => r = .returned (.bool (l.all (hz xs))) ∧ Apart [] w w' := by
  obtain ⟨X, HX⟩ : ∃ X, Hid (X = w.heap.size) := ⟨_, rfl⟩
  obtain ⟨w1, hw1⟩ : ∃ V, V = w.alloc (.cells #[.map (some h), .int .i64 c] 85) := ⟨_, rfl⟩
  have a1 : Apart [] w w1 := by rw [hw1]; exact (Apart.refl [] w).alloc _
  have hb1 : w1.heap[X]? = some (.cells #[.map (some h), .int .i64 c] 85 (0, 0)) := by rw [hw1, HX.out]; exact heap_alloc_new w _
  have HS1 := hid (hs.kept0 a1)
  have HA1 := hid a1
  have HL := hid hL
  have HS := hid hs
  clear a1 hs hL
  go_enter Tryz.func36, Tryz.ntmps36
  go_upto_region 1 with fail
  rw [← hw1, ← HX.out]
  clear hw1
  have z0 := crow hb1 0 (.map (some h)) rfl
  go_wp2_with (first | (at_range; refine wpD_range _ rfl _ rfl (b := h) (N := N) (l := l) rfl HS1.out ?_; intro w2 cnt0 hrg0 hg0 hs0) | go_in)
  clear z0
  obtain ⟨r, HR⟩ : ∃ r, Hid (r = w1.heap.size) := ⟨_, rfl⟩
  rw [← HR.out] at hrg0 ⊢
  have HI0 : Hid (RgD w2 h r l N l cnt0 ∧ Apart [] w w2 ∧ ∀ d ∈ l, d ∉ l → hz xs d = true) := hid ⟨hrg0, HA1.out.trans (ap_grown hg0), fun d h1 h2 => absurd h1 h2⟩
  have HRw : Hid (w.heap.size ≤ r) := by unfold Hid; rw [HR.out]; exact HA1.out.size
  clear hrg0 hg0 hs0 hb1
  go_frame
  go_loopw [5] (fun _ wr => ∃ rem cnt, Hid (RgD wr h r l N rem cnt ∧ Apart [] w wr ∧ (∀ d ∈ l, d ∉ rem → hz xs d = true) ∧ ∀ d ∈ rem, d ∈ l)) (fun _ wr => wr.rangeLeft h r)
  case atStart => exact ⟨l, cnt0, hid ⟨HI0.out.1, HI0.out.2.1, HI0.out.2.2, fun d hd => hd⟩⟩
  case round =>
    obtain ⟨rem, cnt, HI⟩ := hrel
    go_wp2_with (first | (at_next; refine wpD_next _ rfl _ rfl (b := h) (r := r) (N := N) (l := l) rfl HI.out.1 ?_ ?_) | go_in)
    · intro hrem
      have HE : Hid (l.all (hz xs) = true) := by
        unfold Hid
        rw [List.all_eq_true]
        exact fun d hd => HI.out.2.2.1 d hd (by rw [hrem]; simp)
      clear hrem
      go_wp2_with fail
      go_ret
      exact ⟨by rw [HE.out]; rfl, HI.out.2.1⟩
    · intro dn dc w3 cnt3 hdo hdm hrg3 hlt hg3 hs3 hen
      obtain ⟨d, HD⟩ : ∃ d : Dt, Hid (d = (dn, dc)) := ⟨_, rfl⟩
      rw [← HD.out] at hdo hdm hrg3
      have e1 : dn = d.1 := by rw [HD.out]
      have e2 : dc = d.2 := by rw [HD.out]
      subst e1 e2
      clear HD
      have HA3 : Hid (Apart [] w w3) := hid (HI.out.2.1.trans' (ap_grown hg3) (fun y hy => .inr (by simp at hy; subst hy; exact HRw.out)))
      have HG3 := hid hrg3
      have HDM := hid hdm
      have HLT := hid hlt
      obtain ⟨Y, HY⟩ : ∃ Y, Hid (Y = w3.heap.size) := ⟨_, rfl⟩
      obtain ⟨w4, hw4⟩ : ∃ V, V = w3.alloc (.cells #[.int .i64 d.1, .int .i64 d.2] 34) := ⟨_, rfl⟩
      have a4 : Apart [] w3 w4 := by rw [hw4]; exact (Apart.refl [] w3).alloc _
      have hb4 : w4.heap[Y]? = some (.cells #[.int .i64 d.1, .int .i64 d.2] 34 (0, 0)) := by rw [hw4, HY.out]; exact heap_alloc_new w3 _
      have HA4 := hid (HA3.out.trans a4)
      have HG4 : Hid (RgD w4 h r l N (rem.filter (fun x => !decide (x = d))) cnt3) := hid (HG3.out.kept (a4.block h HG3.out.set.lt (by simp)) (a4.block r HG3.out.lt (by simp)))
      clear a4 hrg3 hdm hlt hg3 hs3
      unfold dV at hen ⊢
      go_upto_region 4 with fail
      rw [← hw4, ← HY.out]
      clear hw4 hen
      have y0 := crow hb4 0 (.int .i64 d.1) rfl
      have y1 := crow hb4 1 (.int .i64 d.2) rfl
      obtain ⟨v, HV⟩ : ∃ v, Hid (v = hz xs d) := ⟨_, rfl⟩
      go_wp2_with fail
      refine (has_any (cap := cap) d.1 d.2 (HL.out.kept0 HA4.out) v HV.out).mono ?_
      rintro _ w5 ⟨rfl, a5⟩
      have HA5 := hid (HA4.out.trans a5)
      have HG5 : Hid (RgD w5 h r l N (rem.filter (fun x => !decide (x = d))) cnt3) := hid (HG4.out.kept (a5.block h HG4.out.set.lt (by simp)) (a5.block r HG4.out.lt (by simp)))
      clear a5 y0 y1 hb4
      try dsimp only
      cases v with
      | false =>
        have HE : Hid (l.all (hz xs) = false) := by
          unfold Hid
          rw [List.all_eq_false]
          exact ⟨d, HI.out.2.2.2 d HDM.out, by rw [← HV.out]; simp⟩
        go_wp2_with fail
        go_ret
        exact ⟨by rw [HE.out]; rfl, HA5.out⟩
      | true =>
        go_wp2_with fail
        go_roundw
        case rel =>
          refine ⟨_, cnt3, hid ⟨HG5.out, HA5.out, fun x h1 h2 => ?_, fun x hx => HI.out.2.2.2 x (List.mem_filter.1 hx).1⟩⟩
          by_cases e : x = d
          · rw [e, ← HV.out]
          · exact HI.out.2.2.1 x h1 (fun hm => h2 (List.mem_filter.2 ⟨hm, by simp [e]⟩))
        case measure => rw [HG5.out.left_eq, HI.out.1.left_eq]; exact HLT.out
set_option maxRecDepth 100000 in
theorem within_none {w : World} {c : Int} {p : Option Addr} {n cap : Nat} : Calls Tryz.prog 36 #[.agg #[.map none, .int .i64 c], .slice p n cap] w fun r w' => r = .returned (.bool true) ∧ Apart [] w w' := by
  obtain ⟨X, HX⟩ : ∃ X, Hid (X = w.heap.size) := ⟨_, rfl⟩
  obtain ⟨w1, hw1⟩ : ∃ V, V = w.alloc (.cells #[.map none, .int .i64 c] 85) := ⟨_, rfl⟩
  have a1 : Apart [] w w1 := by rw [hw1]; exact (Apart.refl [] w).alloc _
  have hb1 : w1.heap[X]? = some (.cells #[.map none, .int .i64 c] 85 (0, 0)) := by rw [hw1, HX.out]; exact heap_alloc_new w _
  have HA1 := hid a1
  clear a1
  have hrg := run_range_nilMap (P := Tryz.prog) w1 83 34 99 Tryz.underlying83
  have hnx : ∀ ty, (Instr.next (.pointer (some ⟨w1.heap.size, 0, none⟩)) false ty).run Tryz.prog (w1.alloc (.mapIter none 0 #[] 0)) = _ := fun ty => run_next_nilMap w1 ty 0 0 #[]
  go_enter Tryz.func36, Tryz.ntmps36
  go_upto_region 1 with fail
  rw [← hw1, ← HX.out]
  clear hw1
  have z0 := crow hb1 0 (.map none) rfl
  go_wp2_with fail
  refine wp_loop_rounds 1 ?_
  rw [rounds_succ]
  go_wp2_with fail
  go_ret
  exact ⟨rfl, HA1.out.trans ((Apart.refl [] w1).alloc _)⟩
end Go.Proofs.YtpddokbjjhbfgaaGreat.ds
namespace Go.Proofs.YtpddokbjjhbfgaaGreat.ds
open Go.ChangeShapes Go.WideShapes Go.ChangeAt Go.RowKit Go.Sort Go.Shelf
open Go.Maps (Keyed)
set_option linter.unusedVariables false
set_option linter.unusedSimpArgs false
attribute [local go_sem] Oper.semAt_some

section
variable {F : Fence} {nF : Nat} (w : World) {ops : Array Oper} {rest : List Oper} {o : Oper} {a : Act} {Q : Exit → Act → World → Prop}
theorem wpDI_range (hg : o.guard = none) (m : Operand) (hop : o.op = Op.range 83 m) {b N : Nat} {l : List Dt} (hm : a.eval m = .map (some b)) (h : SetAt w b l N)
    (hK : ∀ w' cnt, RgD w' b w.heap.size l N l cnt → w.grownBy w' none → w'.heap.size = w.heap.size + 1 → wpListIn F nF Tryz.prog ops Q rest (a.put o.dst (.pointer (some ⟨w.heap.size, 0, none⟩))) w') :
    wpListIn F nF Tryz.prog ops Q (o :: rest) a w := by
  obtain ⟨ok, D, h1, h5⟩ := h
  exact wpListIn_range_own w hg m 83 hop 34 99 lawD Tryz.underlying83 unitElem b N D hm h1 (fun w' r g s => hK w' _ ⟨ok, ok, D, _, r, h5, h5⟩ g s)
theorem wpDI_next (hg : o.guard = none) (it : Operand) (hop : o.op = Op.next it false) {b r N cnt : Nat} {l rem : List Dt} (hit : a.eval it = .pointer (some ⟨r, 0, none⟩)) (h : RgD w b r l N rem cnt)
    (hDone : rem = [] → wpListIn F nF Tryz.prog ops Q rest (a.put o.dst (.tuple #[.bool false])) w)
    (hMore : ∀ (d : Dt) (w' : World) (cnt' : Nat), Dok d → d ∈ rem → RgD w' b r l N (rem.filter (fun x => !decide (x = d))) cnt' → cnt' < cnt → w.grownBy w' (some r) → w'.heap.size = w.heap.size →
      (Instr.entry (.pointer (some ⟨r, 0, none⟩))).run Tryz.prog w' = .ok (.tuple #[dV d, .agg #[]]) w' → wpListIn F nF Tryz.prog ops Q rest (a.put o.dst (.tuple #[.bool true, dV d, .agg #[]])) w') :
    wpListIn F nF Tryz.prog ops Q (o :: rest) a w := by
  obtain ⟨ok, ok', D, left, h1, h2, h3⟩ := h
  refine wpListIn_next_ranges w hg it hop 34 lawD unitElem dV (fun _ : Unit => Value.agg #[]) (fun key kl hk => ?_) (fun v y hv => ⟨(), (unitElem_inv hv).1⟩) b r N D left cnt hit h1 (fun h0 hl => hDone ?_) (fun d _ kl y w' cnt' hk hlk hv hat hrg hlt hgr hsz hen => ?_)
  · obtain ⟨d, e, _⟩ := keyD_inv hk
    exact ⟨d, e⟩
  · apply List.eq_nil_iff_forall_not_mem.2
    intro d hd
    have := (h3 d (ok' d hd)).2 hd
    rw [hl] at this
    cases this
  · obtain ⟨d', e, hdo, hkl⟩ := keyD_inv hk
    have ed : d = d' := by unfold dV at e; simp at e; exact Prod.ext e.1 e.2
    subst ed
    subst hkl
    refine hMore d w' cnt' hdo ((h3 d hdo).1 hlk) ⟨ok, fun x hx => ok' x (List.mem_filter.1 hx).1, D, _, hrg, h2, fun x hx => ?_⟩ hlt hgr hsz hen
    have hsk : (kD x).sameKey (kD d) = decide (x = d) := by
      by_cases e : x = d
      · subst e; simp [kD, Lit.sameKey]
      · rw [Maps.sameKey_ne (fun h => e (kD_inj hx hdo h))]; simp [e]
    simp [hsk, List.mem_filter, h3 x hx]
end
theorem RgD.of_walks {w w' : World} {b r : Nat} {l rem : List Dt} {N cnt : Nat} (h : RgD w b r l N rem cnt) (hk : KeepsWalks w w') : RgD w' b r l N rem cnt := by
  obtain ⟨ok, ok', D, left, h1, h2, h3⟩ := h
  exact ⟨ok, ok', D, left, h1.of_walks hk, h2, h3⟩
theorem RgD.iter {w : World} {b r : Nat} {l rem : List Dt} {N cnt : Nat} (h : RgD w b r l N rem cnt) : ∃ o : Obj, w.heap[r]? = some o ∧ o.isWalk = true := by
  obtain ⟨ok, ok', D, left, h1, h2, h3⟩ := h
  exact h1.iter_walk
set_option maxRecDepth 100000 in
set_option maxHeartbeats 4000000 in
theorem keys_stops (n : Nat) (hn : 2 ≤ n) (Bm h N : Nat) (ls : List Dt) (w : World) (hBm : Bm < w.heap.size) (hm : w.cell? ⟨Bm, 0, none⟩ = some (.map (some h))) (hs : SetAt w h ls N) (hnd : ls.Nodup) :
    SeqStopsK Fence.wide n Tryz.prog 59 #[.pointer (some ⟨Bm, 0, none⟩)] (fun d : Dt => #[dV d]) KeepsWalks (fun ys => ys.Perm ls) (fun _ => True) N w := by
  intro l J Jx W hW hJ hJx hY hJ0
  have HS := hid (hs.kept (hW.block h hs.lt))
  have hmW : W.cell? ⟨Bm, 0, none⟩ = some (.map (some h)) := (hW.cell (p := ⟨Bm, 0, none⟩) hBm).trans hm
  have HJ := hid hJ
  have HY := hid hY
  have H0 := hid hJ0
  have HND := hid hnd
  clear hs hm hBm hJ hJx hY hJ0 hnd hW
  show CallsIn Fence.wide n Tryz.prog 59 #[.func (.yield l) #[] #[], .pointer (some ⟨Bm, 0, none⟩)] W _
  refine callsIn_of_wp Tryz.func59 rfl trivial ?_ rfl
  simp only [Tryz.ntmps59, List.size_toArray, List.length_cons, List.length_nil, Nat.reduceAdd, Nat.reduceSub, Array.replicate_succ, Array.replicate_zero, List.push_toArray, List.append_toArray, List.nil_append, List.cons_append]
  gi_wp2_with (first | (gi_at_range; refine wpDI_range _ rfl _ rfl (b := h) (N := N) (l := ls) rfl HS.out ?_; intro w2 cnt0 hrg0 hg0 hs0) | gi_in)
  obtain ⟨r, HR⟩ : ∃ r, Hid (r = W.heap.size) := ⟨_, rfl⟩
  rw [← HR.out] at hrg0 ⊢
  have HI0 : Hid (RgD w2 h r ls N ls cnt0 ∧ J [] w2) := hid ⟨hrg0, HJ.out [] W w2 none H0.out hg0 (fun r e => by cases e)⟩
  clear hrg0 hg0 hs0 H0
  try go_frame
  gi_loopw [3] (fun _ wr => ∃ rem cnt acc, Hid (RgD wr h r ls N rem cnt ∧ acc.length + cnt ≤ N ∧ acc.Nodup ∧ (∀ d, d ∈ ls ↔ d ∈ acc ∨ d ∈ rem) ∧ (∀ d ∈ acc, d ∉ rem) ∧ J acc wr)) (fun _ wr => wr.rangeLeft h r)
  case atStart => exact ⟨ls, cnt0, [], hid ⟨HI0.out.1, by have := HI0.out.1.cnt_le; simpa using this, List.nodup_nil, fun d => by simp, by simp, HI0.out.2⟩⟩
  case round =>
    obtain ⟨rem, cnt, acc, HI⟩ := hrel
    clear HI0 hmW
    gi_wp2_with (first | (gi_at_next; refine wpDI_next _ rfl _ rfl (b := h) (r := r) (N := N) (l := ls) rfl HI.out.1 ?_ ?_) | gi_in)
    · intro hrem
      have HE : Hid (acc.Perm ls) := by
        refine (List.perm_ext_iff_of_nodup HI.out.2.2.1 HND.out).2 (fun d => ?_)
        rw [HI.out.2.2.2.1 d, hrem]; simp
      clear hrem
      gi_wp2
      go_end0
      exact ⟨⟨_, rfl⟩, .inl ⟨acc, HE.out, HI.out.2.2.2.2.2⟩⟩
    · intro dn dc w3 cnt3 hdo hdm hrg3 hlt hg3 hs3 hen
      obtain ⟨d, HD⟩ : ∃ d : Dt, Hid (d = (dn, dc)) := ⟨_, rfl⟩
      rw [← HD.out] at hdo hdm hrg3
      have e1 : dn = d.1 := by rw [HD.out]
      have e2 : dc = d.2 := by rw [HD.out]
      subst e1 e2
      clear HD
      have HLT := hid hlt
      have HDM := hid hdm
      obtain ⟨Y, HYb⟩ : ∃ Y, Hid (Y = w3.heap.size) := ⟨_, rfl⟩
      obtain ⟨w4, hw4⟩ : ∃ V, V = w3.alloc (.cells #[.int .i64 d.1, .int .i64 d.2] 34) := ⟨_, rfl⟩
      have a4 : Apart [] w3 w4 := by rw [hw4]; exact (Apart.refl [] w3).alloc _
      have hb4 : w4.heap[Y]? = some (.cells #[.int .i64 d.1, .int .i64 d.2] 34 (0, 0)) := by rw [hw4, HYb.out]; exact heap_alloc_new w3 _
      have HG4 : Hid (RgD w4 h r ls N (rem.filter (fun x => !decide (x = d))) cnt3) := hid (hrg3.kept (a4.block h hrg3.set.lt (by simp)) (a4.block r hrg3.lt (by simp)))
      have hJ3 : J acc w3 := HJ.out acc wr w3 (some r) HI.out.2.2.2.2.2 hg3 (fun k e => by cases e; exact ⟨by rw [HR.out]; exact Nat.le_refl _, HI.out.1.iter⟩)
      have hJ4 : J acc w4 := by rw [hw4]; exact HJ.out acc w3 _ none hJ3 (World.grownBy_alloc w3 _ none) (fun k e => by cases e)
      have HY4 := hid (HY.out acc d w4 hJ4 (by have := HI.out.2.1; omega))
      clear a4 hrg3 hdm hlt hg3 hs3 hJ3 hJ4 hdo
      unfold dV at hen ⊢
      obtain ⟨fn, tmps, assign, body, hy', hR⟩ := HY4.out
      unfold dV at hy'
      subst hw4
      gi_wp2
      refine ⟨(fun h => by cases h), ?_⟩
      refine hR.mono ?_
      rintro e W3 (⟨rfl, hJ5, hk5⟩ | ⟨rfl, hJx5⟩)
      · dsimp only
        have HI5 : Hid (RgD W3 h r ls N (rem.filter (fun x => !decide (x = d))) cnt3 ∧ J (acc ++ [d]) W3) := hid ⟨HG4.out.of_walks hk5, hJ5⟩
        clear hk5 hJ5 hR hy' hen HG4 HY4
        gi_wp2
        go_roundw
        case rel =>
          refine ⟨_, cnt3, acc ++ [d], hid ⟨HI5.out.1, by have := HI.out.2.1; have := HLT.out; simp; omega, ?_, fun x => ?_, fun x hx => ?_, HI5.out.2⟩⟩
          · exact List.nodup_append.2 ⟨HI.out.2.2.1, by simp, fun a ha b hb e => by simp at hb; subst hb; subst e; exact HI.out.2.2.2.2.1 a ha HDM.out⟩
          · rw [HI.out.2.2.2.1 x]
            by_cases e9 : x = d
            · subst e9; simp [HDM.out]
            · simp [e9]
          · rcases List.mem_append.1 hx with hx | hx
            · exact fun hm => HI.out.2.2.2.2.1 x hx (List.mem_filter.1 hm).1
            · simp at hx; subst hx; simp
        case measure => rw [HI5.out.1.left_eq, HI.out.1.left_eq]; exact HLT.out
      · dsimp only
        have HJ5 := hid hJx5
        clear hJx5 hR hy' hen HG4 HY4
        gi_wp2
        refine bodyPost_ret (results_none rfl _ _ _) rfl ?_
        exact ⟨⟨_, rfl⟩, .inr ⟨_, trivial, HJ5.out⟩⟩
end Go.Proofs.YtpddokbjjhbfgaaGreat.ds
