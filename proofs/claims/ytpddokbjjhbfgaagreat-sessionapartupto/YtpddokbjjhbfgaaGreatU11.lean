import Derived.Test.YtpddokbjjhbfgaaGreatChecked
import Derived.WalkKit
import Derived.ProofKit
import Derived.Maps.OwnSet
import Derived.Maps.RangeWalk
import Derived.DeepKeys4
import Derived.MapViews
import Derived.StringKeys
import Derived.Lib.TrailingZeros
import Derived.OpenShut
import Derived.Deep.QuietTactic
import Derived.BigQuiet
import Derived.BigRegion
import Derived.Laws.CopyOwn
import Derived.Laws.Bits64b
import Derived.Laws.MathBits
import Derived.Laws.ShiftsVarLaws
import Derived.WalkSmall
import Derived.Laws.ResultCell
import Derived.Lib.BitFns
import Derived.Laws.StructEq
import Derived.Deep.RegionHeld
import Derived.ArgAppend
import Derived.Deep.RegionLaw
import Derived.Deep.DeepAppendRoom
import Derived.Sort.WalkA
import Derived.Laws.Strings
import Derived.Deep.CutBlock
import Derived.Great.BuildSlice
import Derived.Laws.BytesString
import Derived.Laws.AppendOwnNone
import Derived.Lib.Overlaps
import Derived.Lib.AppendZerosOnto
import Derived.Laws.NewBlocks
import Derived.Laws.Externs
import Derived.Laws.IdiomCopy
import Derived.RangeFuncNested
import Derived.RangeFuncBound
import Derived.RangeFuncCalls
import Derived.RangeFuncLeaves
import Derived.Shelf.Abstract
import Derived.Shelf.RegionOpen
import Derived.OwnWalkIn
import Derived.TacticsInMore
import Derived.LoopNIn
import Derived.LoopIn
import Derived.Deep.CutRange
import Derived.Deep.OwnRows
import Derived.Lib.Walk
import Derived.Lib.SliceRun
import GoSem.Claim
import GoSem.ClaimJoined
import GoSem.ClaimMapViews
import Derived.JoinedTies
import Derived.KernelRfl
import Derived.Lib.LaidTab
import Derived.JoinedCond
import Derived.ShutString
import Derived.ChangeOld
import Derived.Below
import Derived.Carry
import Derived.ChangeSlices
import Derived.Deep.Slices
import Derived.Deep.DeepHandedRow
import Derived.RowKit
import Derived.ChangeShapes
import Derived.SizedLaws
import Derived.ChangeMaps5
import Derived.OrdersHeld
import Derived.Lib.AppendStr
import Derived.Lib.ConvBytes
import Derived.Deep.RegionHeld3
import Derived.Deep.MidRow
import Derived.Laws.BitsAllLaws
import Derived.Sort.Grow
import Derived.Shelf.SlSortCmp.WholeK
import Derived.Shelf.Lay
import Derived.Ground.SlsfProg
import Derived.Sort.LotA
import Derived.Sort.MapsRangeIn
import Derived.RangeFuncSeq
import Derived.RangeFuncKeeps
import Derived.Maps.AppendAt
import Derived.OwnWalk
import Derived.Test.YtpddokbjjhbfgaaGreatRows
import Derived.Test.YtpddokbjjhbfgaaGreatU10
namespace Go.Proofs.YtpddokbjjhbfgaaGreat.rg

def stepH (h x : Nat) : Nat := ((h ^^^ x) * 16777619) % 4294967296
def foldH (bs : List Nat) : Nat := bs.foldl stepH 2166136261
def lastH (h : Nat) : Nat := ((h ^^^ (h >>> 15)) * 2246822519) % 4294967296
def endH (h : Nat) : Nat := lastH h ^^^ (lastH h >>> 13)
/-- The document's number of bytes. -/
def hashN (bs : List Nat) : Nat := endH (foldH bs)

/-- A point: where it lies, and whose it is. -/
abbrev Pt := Nat × Nat
def ltP (a b : Pt) : Bool := decide (a.1 < b.1) || (decide (a.1 = b.1) && decide (a.2 < b.2))
def ptsOf (i k : Nat) : Pt := (hashN [i, k], i)
def pts (n : Nat) : List Pt := (List.range n).flatMap fun i => (List.range 4).map fun k => ptsOf i k
def insP (x : Pt) : List Pt → List Pt
  | [] => [x]
  | y :: r => if ltP x y then x :: y :: r else y :: insP x r
def srtP : List Pt → List Pt
  | [] => []
  | x :: r => insP x (srtP r)
def placeN (r : Nat) : Nat := hashN [255, 255, r]
def begN (l : List Pt) (f : Nat) : Nat := l.countP fun p => decide (p.1 < f)
def rotN (l : List Pt) (f : Nat) : List Pt := l.drop (begN l f) ++ l.take (begN l f)
def metN (acc : List Nat) : List Pt → List Nat
  | [] => acc
  | p :: r => metN (if acc.contains p.2 then acc else acc ++ [p.2]) r
/-- A range's order. -/
def ord (n r : Nat) : List Nat := metN [] (rotN (srtP (pts n)) (placeN r))

/-- The document's order. -/
def awayN (pl i : Nat) : Nat := (List.range 4).foldl (fun b k => let d := (hashN [i, k] + 4294967296 - pl) % 4294967296; if d < b then d else b) 4294967296
def nextN (n pl : Nat) (out : List Nat) : Option Nat :=
  (List.range n).foldl (fun b i => if out.contains i then b else match b with | none => some i | some j => if awayN pl i < awayN pl j then some i else some j) none
def refN (n pl : Nat) : Nat → List Nat
  | 0 => []
  | m + 1 => refN n pl m ++ [((nextN n pl (refN n pl m)).getD 0)]

set_option maxRecDepth 100000 in
theorem ord_len : ∀ n < 9, ∀ r < 16, (ord n r).length = n := by decide +kernel
set_option maxRecDepth 100000 in
theorem ord_ref : ∀ n < 9, ∀ r < 16, refN n (placeN r) n = ord n r := by decide +kernel

theorem ltP_iff (a b : Pt) : ltP a b = true ↔ a.1 < b.1 ∨ (a.1 = b.1 ∧ a.2 < b.2) := by simp [ltP]
theorem ltP_not (a b : Pt) : ltP a b = false ↔ ¬ (a.1 < b.1 ∨ (a.1 = b.1 ∧ a.2 < b.2)) := by rw [← ltP_iff]; simp
theorem insP_perm (x : Pt) : ∀ l, (insP x l).Perm (x :: l)
  | [] => List.Perm.refl _
  | y :: r => by
    rw [insP]; split
    · exact List.Perm.refl _
    · exact ((insP_perm x r).cons y).trans (List.Perm.swap x y r)
theorem srtP_perm : ∀ l, (srtP l).Perm l
  | [] => List.Perm.refl _
  | x :: r => (insP_perm x (srtP r)).trans ((srtP_perm r).cons x)
theorem insP_sorted (x : Pt) : ∀ l, l.Pairwise (fun a b => ltP b a = false) → (insP x l).Pairwise (fun a b => ltP b a = false)
  | [], _ => by simp [insP]
  | y :: r, h => by
    rw [insP]
    rw [List.pairwise_cons] at h
    split
    · rename_i hx
      rw [ltP_iff] at hx
      refine List.pairwise_cons.2 ⟨fun z hz => ?_, List.pairwise_cons.2 h⟩
      rcases List.mem_cons.1 hz with rfl | hz
      · rw [ltP_not]; omega
      · have := h.1 z hz
        rw [ltP_not] at this ⊢; omega
    · rename_i hx
      refine List.pairwise_cons.2 ⟨fun z hz => ?_, insP_sorted x r h.2⟩
      rcases List.mem_cons.1 ((insP_perm x r).mem_iff.1 hz) with rfl | hz
      · simpa using hx
      · exact h.1 z hz
theorem srtP_sorted : ∀ l, (srtP l).Pairwise (fun a b => ltP b a = false)
  | [] => List.Pairwise.nil
  | x :: r => insP_sorted x _ (srtP_sorted r)

/-- What lies ahead of a number in a sorted row: the first begN of them. -/
theorem beg_take (l : List Pt) (h : l.Pairwise (fun a b => ltP b a = false)) (f : Nat) : ∀ i, ∀ hi : i < l.length, (l[i].1 < f ↔ i < begN l f) := by
  induction l with
  | nil => intro i hi; simp at hi
  | cons x r ih =>
    rw [List.pairwise_cons] at h
    intro i hi
    by_cases hx : x.1 < f
    · have e : begN (x :: r) f = begN r f + 1 := by simp [begN, hx]
      rw [e]
      cases i with
      | zero => simp [hx]
      | succ i => simpa using ih h.2 i (by simpa using hi)
    · have z : ∀ y ∈ r, ¬ y.1 < f := by
        intro y hy; have := h.1 y hy; rw [ltP_not] at this; omega
      have e : begN (x :: r) f = 0 := by
        unfold begN; rw [List.countP_eq_zero]; intro y hy
        rcases List.mem_cons.1 hy with rfl | hy
        · simpa using hx
        · simpa using z y hy
      rw [e]
      cases i with
      | zero => simpa using hx
      | succ i => simpa using z _ (List.getElem_mem (by simpa using hi))

end Go.Proofs.YtpddokbjjhbfgaaGreat.rg
namespace Go.Proofs.YtpddokbjjhbfgaaGreat.rg
open Go.ChangeShapes Go.WideShapes Go.ChangeAt Go.RowKit Go.Sort
set_option linter.unusedVariables false
set_option linter.unusedSimpArgs false
/-- some blocks more, some draws on -/
def Gr (w W : World) : Prop := ∃ q os, W = grow (w.drewN q) os
theorem Gr.refl (w : World) : Gr w w := ⟨0, #[], by simp [World.drewN]⟩
theorem Gr.alloc {w W : World} (h : Gr w W) (o : Obj) : Gr w (W.alloc o) := by
  obtain ⟨q, os, rfl⟩ := h
  exact ⟨q, os ++ #[o], by rw [alloc_eq_grow, grow_grow]⟩
theorem Gr.drew {w W : World} (h : Gr w W) : Gr w W.drew := by
  obtain ⟨q, os, rfl⟩ := h
  exact ⟨q + 1, os, rfl⟩
theorem Gr.trans {a b c : World} (h : Gr a b) (k : Gr b c) : Gr a c := by
  obtain ⟨q, os, rfl⟩ := h
  obtain ⟨q', os', rfl⟩ := k
  exact ⟨q + q', os ++ os', by rw [← grow_grow]; simp only [grow, World.drewN, Nat.add_assoc]⟩
theorem Gr.size {w W : World} (h : Gr w W) : w.heap.size ≤ W.heap.size := by
  obtain ⟨q, os, rfl⟩ := h
  rw [size_grow]; simp [World.drewN]
theorem Gr.cell {w W : World} (h : Gr w W) (a : Addr) (ha : a.block < w.heap.size) : W.cell? a = w.cell? a := by
  obtain ⟨q, os, rfl⟩ := h
  exact cell?_grow (w.drewN q) os a ha
theorem Gr.apart {w W : World} (h : Gr w W) : Apart [] w W := by
  obtain ⟨q, os, rfl⟩ := h
  exact ⟨rfl, rfl, rfl, by rw [size_grow]; simp [World.drewN], fun k hk _ => heap_grow_old (w.drewN q) os hk⟩
def cmpI (a b : Nat) : Int := if a < b then -1 else if b < a then 1 else 0
/-- what comparePoints says -/
def cfP (x y : Pt) : Int := if cmpI x.1 y.1 ≠ 0 then cmpI x.1 y.1 else cmpI x.2 y.2
theorem cfP_lt (x y : Pt) : decide (cfP x y < 0) = ltP x y := by
  unfold cfP cmpI ltP
  rcases Nat.lt_trichotomy x.1 y.1 with h | h | h
  · have : ¬ y.1 < x.1 := by omega
    simp [h]
  · have h1 : ¬ x.1 < y.1 := by omega
    have h2 : ¬ y.1 < x.1 := by omega
    simp only [h1, h2, if_false, h]
    by_cases h3 : x.2 < y.2
    · simp [h3]
    · by_cases h4 : y.2 < x.2 <;> simp [h3, h4]
  · have h1 : ¬ x.1 < y.1 := by omega
    have h2 : ¬ x.1 = y.1 := by omega
    simp [h, h1, h2]
theorem nan53 (a : Int) (w : World) : Calls Tryz.prog 131 #[.int .u32 a] w fun r w' => r = .returned (.bool false) ∧ w' = w := by
  go_enter Tryz.func131, Tryz.ntmps131
  go_wp2_with fail
  go_ret
  exact ⟨by simp, rfl⟩
theorem nan54 (a : Int) (w : World) : Calls Tryz.prog 82 #[.int .i64 a] w fun r w' => r = .returned (.bool false) ∧ w' = w := by
  go_enter Tryz.func82, Tryz.ntmps82
  go_wp2_with fail
  go_ret
  exact ⟨by simp, rfl⟩
theorem cmp46 (a b : Nat) (w : World) : Calls Tryz.prog 124 #[.int .u32 a, .int .u32 b] w fun r w' => r = .returned (.int .i64 (cmpI a b)) ∧ w' = w := by
  unfold cmpI
  by_cases h1 : a < b
  · rw [if_pos h1]
    go_enter Tryz.func124, Tryz.ntmps124
    go_wp2_with (go_at_call 131; refine (nan53 _ _).mono ?_; rintro r w1 ⟨rfl, rfl⟩)
    go_ret
    exact ⟨rfl, rfl⟩
  · rw [if_neg h1]
    by_cases h2 : b < a
    · rw [if_pos h2]
      go_enter Tryz.func124, Tryz.ntmps124
      go_wp2_with (go_at_call 131; refine (nan53 _ _).mono ?_; rintro r w1 ⟨rfl, rfl⟩)
      go_ret
      exact ⟨rfl, rfl⟩
    · rw [if_neg h2]
      go_enter Tryz.func124, Tryz.ntmps124
      go_wp2_with (go_at_call 131; refine (nan53 _ _).mono ?_; rintro r w1 ⟨rfl, rfl⟩)
      go_ret
      exact ⟨rfl, rfl⟩
theorem cmp47 (a b : Nat) (w : World) : Calls Tryz.prog 61 #[.int .i64 a, .int .i64 b] w fun r w' => r = .returned (.int .i64 (cmpI a b)) ∧ w' = w := by
  unfold cmpI
  by_cases h1 : a < b
  · rw [if_pos h1]
    go_enter Tryz.func61, Tryz.ntmps61
    go_wp2_with (go_at_call 82; refine (nan54 _ _).mono ?_; rintro r w1 ⟨rfl, rfl⟩)
    go_ret
    exact ⟨rfl, rfl⟩
  · rw [if_neg h1]
    by_cases h2 : b < a
    · rw [if_pos h2]
      go_enter Tryz.func61, Tryz.ntmps61
      go_wp2_with (go_at_call 82; refine (nan54 _ _).mono ?_; rintro r w1 ⟨rfl, rfl⟩)
      go_ret
      exact ⟨rfl, rfl⟩
    · rw [if_neg h2]
      go_enter Tryz.func61, Tryz.ntmps61
      go_wp2_with (go_at_call 82; refine (nan54 _ _).mono ?_; rintro r w1 ⟨rfl, rfl⟩)
      go_ret
      exact ⟨rfl, rfl⟩
theorem or45 (G cap : Nat) (a b c : Int) (hc : c = if a ≠ 0 then a else b) (w : World) (h0 : w.cell? ⟨G, 0, none⟩ = some (.int .i64 a)) (h1 : w.cell? ⟨G, 1, none⟩ = some (.int .i64 b)) : Calls Tryz.prog 60 #[.slice (some ⟨G, 0, none⟩) 2 cap] w fun r w' => r = .returned (.int .i64 c) ∧ w' = w := by
  subst hc
  by_cases ha : a = 0
  · subst ha
    by_cases hb : b = 0
    · subst hb
      go_enter Tryz.func60, Tryz.ntmps60
      go_wp2_with fail
      refine wp_loop_rounds 3 ?_
      rw [rounds_succ]
      go_wp2_with fail
      rw [rounds_succ]
      go_wp2_with fail
      rw [rounds_succ]
      go_wp2_with fail
      go_ret
      exact ⟨rfl, rfl⟩
    · go_enter Tryz.func60, Tryz.ntmps60
      go_wp2_with fail
      refine wp_loop_rounds 2 ?_
      rw [rounds_succ]
      go_wp2_with fail
      rw [rounds_succ]
      go_wp2_with fail
      go_ret
      exact ⟨rfl, rfl⟩
  · go_enter Tryz.func60, Tryz.ntmps60
    go_wp2_with fail
    refine wp_loop_rounds 1 ?_
    rw [rounds_succ]
    go_wp2_with fail
    go_ret
    exact ⟨rfl, rfl⟩
set_option maxHeartbeats 4000000 in
set_option maxRecDepth 100000 in
theorem compare_ok (x y : Pt) (w : World) : Calls Tryz.prog 110 #[.agg #[.int .u32 (x.1 : Nat), .int .i64 (x.2 : Nat)], .agg #[.int .u32 (y.1 : Nat), .int .i64 (y.2 : Nat)]] w fun r w' => r = .returned (.int .i64 (cfP x y)) ∧ Gr w w' := by
  have HV : Hid (Gr w ((w.alloc (.cells #[.int .u32 (x.1 : Nat), .int .i64 (x.2 : Nat)] 170)).alloc (.cells #[.int .u32 (y.1 : Nat), .int .i64 (y.2 : Nat)] 170))) := ((Gr.refl w).alloc _).alloc _
  have k0 : ∀ W, Gr ((w.alloc (.cells #[.int .u32 (x.1 : Nat), .int .i64 (x.2 : Nat)] 170)).alloc (.cells #[.int .u32 (y.1 : Nat), .int .i64 (y.2 : Nat)] 170)) W → W.cell? ⟨w.heap.size, 0, none⟩ = some (.int .u32 (x.1 : Nat)) ∧ W.cell? ⟨w.heap.size, 1, none⟩ = some (.int .i64 (x.2 : Nat)) ∧ W.cell? ⟨w.heap.size + 1, 0, none⟩ = some (.int .u32 (y.1 : Nat)) ∧ W.cell? ⟨w.heap.size + 1, 1, none⟩ = some (.int .i64 (y.2 : Nat)) := by
    intro W hW
    refine ⟨?_, ?_, ?_, ?_⟩ <;> rw [hW.cell _ (by simp <;> omega)] <;> simp
  go_enter Tryz.func110, Tryz.ntmps110
  go_wp2_with fail
  generalize (w.alloc (.cells #[.int .u32 (x.1 : Nat), .int .i64 (x.2 : Nat)] 170)).alloc (.cells #[.int .u32 (y.1 : Nat), .int .i64 (y.2 : Nat)] 170) = V at *
  have r0 : ∀ W, Gr V W → W.cell? ⟨w.heap.size, 0, none⟩ = some (.int .u32 (x.1 : Nat)) := fun W h => (k0 W h).1
  have r1 : ∀ W, Gr V W → W.cell? ⟨w.heap.size, 1, none⟩ = some (.int .i64 (x.2 : Nat)) := fun W h => (k0 W h).2.1
  have r2 : ∀ W, Gr V W → W.cell? ⟨w.heap.size + 1, 0, none⟩ = some (.int .u32 (y.1 : Nat)) := fun W h => (k0 W h).2.2.1
  have r3 : ∀ W, Gr V W → W.cell? ⟨w.heap.size + 1, 1, none⟩ = some (.int .i64 (y.2 : Nat)) := fun W h => (k0 W h).2.2.2
  clear k0
  have gB : Gr V V.drew := (Gr.refl V).drew
  refine wp_region_held_drew (S := fun W => Gr V W) (by kernel_rfl) gB (fun hHeld => ?_)
  refine wpAnyH_take (i := 0) (oi := ⟨some 5, _, _, _, _, _⟩) (v := (.pointer (some ⟨w.heap.size, 0, none⟩))) rfl (by kernel_rfl) (by kernel_rfl) (by kernel_rfl) (fun _ _ _ h => h) (Or.inl ⟨by rfl, ?_⟩) (by assumption) ?_
  · intro W hSW; go_simp
  simp only [Act.put, List.setIfInBounds_toArray, List.set_cons_zero, List.set_cons_succ]
  refine wpAnyH_take (i := 1) (oi := ⟨some 6, _, _, _, _, _⟩) (v := (.int .u32 (x.1 : Nat))) rfl (by kernel_rfl) (by kernel_rfl) (by kernel_rfl) (fun _ _ _ h => h) (Or.inl ⟨by rfl, ?_⟩) (by assumption) ?_
  · intro W hSW; go_simp
  simp only [Act.put, List.setIfInBounds_toArray, List.set_cons_zero, List.set_cons_succ]
  refine wpAnyH_take (i := 2) (oi := ⟨some 7, _, _, _, _, _⟩) (v := (.pointer (some ⟨(w.heap.size + 1), 0, none⟩))) rfl (by kernel_rfl) (by kernel_rfl) (by kernel_rfl) (fun _ _ _ h => h) (Or.inl ⟨by rfl, ?_⟩) (by assumption) ?_
  · intro W hSW; go_simp
  simp only [Act.put, List.setIfInBounds_toArray, List.set_cons_zero, List.set_cons_succ]
  refine wpAnyH_take (i := 3) (oi := ⟨some 8, _, _, _, _, _⟩) (v := (.int .u32 (y.1 : Nat))) rfl (by kernel_rfl) (by kernel_rfl) (by kernel_rfl) (fun _ _ _ h => h) (Or.inl ⟨by rfl, ?_⟩) (by assumption) ?_
  · intro W hSW; go_simp
  simp only [Act.put, List.setIfInBounds_toArray, List.set_cons_zero, List.set_cons_succ]
  refine wpAnyH_take (i := 5) (oi := ⟨some 10, _, _, _, _, _⟩) (v := (.pointer (some ⟨w.heap.size, 1, none⟩))) rfl (by kernel_rfl) (by kernel_rfl) (by kernel_rfl) (fun _ _ _ h => h) (Or.inl ⟨by rfl, ?_⟩) (by assumption) ?_
  · intro W hSW; go_simp
  simp only [Act.put, List.setIfInBounds_toArray, List.set_cons_zero, List.set_cons_succ]
  refine wpAnyH_take (i := 6) (oi := ⟨some 11, _, _, _, _, _⟩) (v := (.int .i64 (x.2 : Nat))) rfl (by kernel_rfl) (by kernel_rfl) (by kernel_rfl) (fun _ _ _ h => h) (Or.inl ⟨by rfl, ?_⟩) (by assumption) ?_
  · intro W hSW; go_simp
  simp only [Act.put, List.setIfInBounds_toArray, List.set_cons_zero, List.set_cons_succ]
  refine wpAnyH_take (i := 7) (oi := ⟨some 12, _, _, _, _, _⟩) (v := (.pointer (some ⟨(w.heap.size + 1), 1, none⟩))) rfl (by kernel_rfl) (by kernel_rfl) (by kernel_rfl) (fun _ _ _ h => h) (Or.inl ⟨by rfl, ?_⟩) (by assumption) ?_
  · intro W hSW; go_simp
  simp only [Act.put, List.setIfInBounds_toArray, List.set_cons_zero, List.set_cons_succ]
  refine wpAnyH_take (i := 8) (oi := ⟨some 13, _, _, _, _, _⟩) (v := (.int .i64 (y.2 : Nat))) rfl (by kernel_rfl) (by kernel_rfl) (by kernel_rfl) (fun _ _ _ h => h) (Or.inl ⟨by rfl, ?_⟩) (by assumption) ?_
  · intro W hSW; go_simp
  simp only [Act.put, List.setIfInBounds_toArray, List.set_cons_zero, List.set_cons_succ]
  refine wpAnyH_ready (rs := [4]) (by kernel_rfl) (by simp) ?_
  refine AllReadyH.cons rfl (fun KK hKK => ?_) AllReadyH.nil
  go_simp
  refine (cmp46 _ _ _).mono ?_
  rintro r w1 ⟨rfl, rfl⟩
  dsimp only
  refine hKK.out _ _ (by assumption) (fun hHeld => ?_)
  clear hKK KK
  refine wpAnyH_ready (rs := [9]) (by kernel_rfl) (by simp) ?_
  refine AllReadyH.cons rfl (fun KK hKK => ?_) AllReadyH.nil
  go_simp
  refine (cmp47 _ _ _).mono ?_
  rintro r w1 ⟨rfl, rfl⟩
  dsimp only
  refine hKK.out _ _ (by assumption) (fun hHeld => ?_)
  clear hKK KK
  refine wpAnyH_ready (rs := [10]) (by kernel_rfl) (by simp) ?_
  refine AllReadyH.cons rfl (fun KK hKK => ?_) AllReadyH.nil
  go_simp
  have gA := gB.alloc (.cells #[.int .i64 (cmpI x.1 y.1), .int .i64 (cmpI x.2 y.2)] 3)
  refine hKK.out _ _ (by assumption) (fun hHeld => ?_)
  clear hKK KK
  refine wpAnyH_ready (rs := [11]) (by kernel_rfl) (by simp) ?_
  refine AllReadyH.cons rfl (fun KK hKK => ?_) AllReadyH.nil
  go_simp
  refine (or45 _ _ (cmpI x.1 y.1) (cmpI x.2 y.2) (cfP x y) rfl _ (by show (V.alloc _).cell? _ = _; simp) (by show (V.alloc _).cell? _ = _; simp)).mono ?_
  rintro r w1 ⟨rfl, rfl⟩
  dsimp only
  refine hKK.out _ _ (by assumption) (fun hHeld => ?_)
  clear hKK KK
  refine wpAnyH_take (i := 12) (oi := ⟨some 4, _, _, _, _, _⟩) (v := (.int .i64 (cfP x y))) rfl (by kernel_rfl) (by kernel_rfl) (by kernel_rfl) (fun _ _ _ h => h) (Or.inl ⟨by rfl, ?_⟩) (by assumption) ?_
  · intro W hSW; go_simp
  simp only [Act.put, List.setIfInBounds_toArray, List.set_cons_zero, List.set_cons_succ]
  refine wpAnyH_done (by kernel_rfl) ?_ _
  go_wp2_with fail
  go_ret
  exact ⟨rfl, HV.out.trans (by assumption)⟩
end Go.Proofs.YtpddokbjjhbfgaaGreat.rg
namespace Go.Proofs.YtpddokbjjhbfgaaGreat.rg
open Go.ChangeShapes Go.WideShapes Go.ChangeAt Go.RowKit
set_option linter.unusedVariables false
theorem xor_lt {a b : Nat} (ha : a < 4294967296) (hb : b < 4294967296) : a ^^^ b < 4294967296 := by
  have h : (4294967296 : Nat) = 2 ^ 32 := by decide
  rw [h] at *
  exact Nat.xor_lt_two_pow ha hb
theorem stepH_lt (h x : Nat) : stepH h x < 4294967296 := by unfold stepH; omega
theorem foldl_lt : ∀ (bs : List Nat) (h : Nat), h < 4294967296 → bs.foldl stepH h < 4294967296
  | [], h, hh => hh
  | x :: r, h, _ => foldl_lt r _ (stepH_lt h x)
theorem foldH_lt (bs : List Nat) : foldH bs < 4294967296 := by unfold foldH; exact foldl_lt bs _ (by omega)
theorem foldl_take (f : Nat → Nat → Nat) (h : Nat) (bs : List Nat) (i : Nat) (hi : i < bs.length) : (bs.take (i + 1)).foldl f h = f ((bs.take i).foldl f h) (bs.getD i 0) := by
  rw [List.take_succ_eq_append_getElem hi, List.foldl_append, List.foldl_cons, List.foldl_nil, List.getD_eq_getElem?_getD, List.getElem?_eq_getElem hi, Option.getD_some]
theorem foldH_succ (bs : List Nat) (i : Nat) (hi : i < bs.length) : foldH (bs.take (i + 1)) = stepH (foldH (bs.take i)) (bs.getD i 0) := foldl_take stepH 2166136261 bs i hi
theorem lastH_lt (h : Nat) : lastH h < 4294967296 := by unfold lastH; omega
theorem hashN_lt (bs : List Nat) : hashN bs < 4294967296 := by
  unfold hashN endH
  have h := lastH_lt (foldH bs)
  refine xor_lt h ?_
  rw [Nat.shiftRight_eq_div_pow]; omega
theorem step_int (y x : Nat) (hy : y < 4294967296) (hx : x < 256) : bits .xor .u32 (y : Int) (x : Int) * 16777619 % 4294967296 = (stepH y x : Nat) := by
  rw [u32_xor_nat y x hy (by omega)]
  unfold stepH
  omega
theorem last_int (y : Nat) (hy : y < 4294967296) : bits .xor .u32 (y : Int) ((y : Int) / 32768) * 2246822519 % 4294967296 = (lastH y : Nat) := by
  rw [show ((y : Int) / 32768) = ((y / 32768 : Nat) : Int) by omega, u32_xor_nat y _ hy (by omega)]
  unfold lastH
  rw [Nat.shiftRight_eq_div_pow, show (2 ^ 15 : Nat) = 32768 from rfl]
  omega
theorem end_int (y : Nat) (hy : y < 4294967296) : bits .xor .u32 (y : Int) ((y : Int) / 8192) = (y ^^^ (y >>> 13) : Nat) := by
  rw [show ((y : Int) / 8192) = ((y / 8192 : Nat) : Int) by omega, u32_xor_nat y _ hy (by omega), Nat.shiftRight_eq_div_pow]
set_option maxHeartbeats 1000000 in
set_option maxRecDepth 100000 in
theorem hash_ok {p : Option Addr} {N cap : Nat} {bs : List Nat} {w : World} (h : By w p N bs) (hN : N ≤ 9223372036854775807) : Calls Tryz.prog 42 #[.slice p N cap] w fun r w' => r = .returned (.int .u32 (hashN bs : Nat)) ∧ w' = w := by
  go_enter Tryz.func42, Tryz.ntmps42
  go_wp2_with fail
  go_loopw [3, 8] (fun x v wr => ∃ i : Nat, i ≤ N ∧ v = .int .i64 i ∧ wr = w ∧ x = .int .u32 (foldH (bs.take i) : Nat)) (fun _ v _ => N - (intOf v).toNat)
  case atStart => exact ⟨0, Nat.zero_le _, rfl, rfl, rfl⟩
  case round =>
    obtain ⟨i, hi, rfl, rfl, rfl⟩ := hrel
    by_cases hlt : i < N
    · have HI : Hid (i < bs.length) := by show i < bs.length; rw [h.len]; exact hlt
      obtain ⟨P, o, rfl, hP, hc⟩ := h.at' (by have := HI.out; omega)
      have c0 := hc i HI.out
      have hx : bs.getD i 0 < 256 := h.lt _ (by rw [List.getD_eq_getElem?_getD, List.getElem?_eq_getElem HI.out]; exact List.getElem_mem HI.out)
      have hy := foldH_lt (bs.take i)
      have HS : Hid (foldH (bs.take (i + 1)) = stepH (foldH (bs.take i)) (bs.getD i 0)) := foldH_succ bs i HI.out
      obtain ⟨x, HX⟩ : ∃ x, Hid (x = bs.getD i 0) := ⟨_, rfl⟩
      rw [← HX.out] at c0 hx HS
      obtain ⟨y, HY⟩ : ∃ y, Hid (y = foldH (bs.take i)) := ⟨_, rfl⟩
      rw [← HY.out] at hy HS ⊢
      clear hc
      go_wp2_with fail
      go_roundw
      case rel => exact ⟨i + 1, by omega, by simp, trivial, by rw [HS.out, step_int y x hy hx]⟩
      case measure => simp only [intOf]; omega
    · obtain rfl : i = N := by omega
      have hb : bs.take i = bs := by rw [← h.len]; exact List.take_length
      rw [hb]
      have hy := foldH_lt bs
      have HE : Hid (hashN bs = lastH (foldH bs) ^^^ (lastH (foldH bs) >>> 13)) := rfl
      obtain ⟨y, HY⟩ : ∃ y, Hid (y = foldH bs) := ⟨_, rfl⟩
      rw [← HY.out] at hy HE ⊢
      have e1 := last_int y hy
      have hl := lastH_lt y
      have e2 := end_int (lastH y) hl
      clear h
      go_wp2_with fail
      go_ret
      refine ⟨?_, rfl⟩
      rw [HE.out]; rfl
end Go.Proofs.YtpddokbjjhbfgaaGreat.rg
