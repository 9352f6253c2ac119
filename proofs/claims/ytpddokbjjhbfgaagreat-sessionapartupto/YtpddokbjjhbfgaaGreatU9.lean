import Derived.Test.YtpddokbjjhbfgaaGreatChecked
import Derived.WalkKit
import Derived.ProofKit
import Derived.Maps.OwnSet
import Derived.Maps.RangeWalk
import Derived.DeepKeys4
import Derived.MapViews
import Derived.StringKeys
import Derived.Lib.TrailingZeros
import Derived.OpenShut
import Derived.Deep.QuietTactic
import Derived.BigQuiet
import Derived.BigRegion
import Derived.Laws.CopyOwn
import Derived.Laws.Bits64b
import Derived.Laws.MathBits
import Derived.Laws.ShiftsVarLaws
import Derived.WalkSmall
import Derived.Laws.ResultCell
import Derived.Lib.BitFns
import Derived.Laws.StructEq
import Derived.Deep.RegionHeld
import Derived.ArgAppend
import Derived.Deep.RegionLaw
import Derived.Deep.DeepAppendRoom
import Derived.Sort.WalkA
import Derived.Laws.Strings
import Derived.Deep.CutBlock
import Derived.Great.BuildSlice
import Derived.Laws.BytesString
import Derived.Laws.AppendOwnNone
import Derived.Lib.Overlaps
import Derived.Lib.AppendZerosOnto
import Derived.Laws.NewBlocks
import Derived.Laws.Externs
import Derived.Laws.IdiomCopy
import Derived.RangeFuncNested
import Derived.RangeFuncBound
import Derived.RangeFuncCalls
import Derived.RangeFuncLeaves
import Derived.Shelf.Abstract
import Derived.Shelf.RegionOpen
import Derived.OwnWalkIn
import Derived.TacticsInMore
import Derived.LoopNIn
import Derived.LoopIn
import Derived.Deep.CutRange
import Derived.Deep.OwnRows
import Derived.Lib.Walk
import Derived.Lib.SliceRun
import GoSem.Claim
import GoSem.ClaimJoined
import GoSem.ClaimMapViews
import Derived.JoinedTies
import Derived.KernelRfl
import Derived.Lib.LaidTab
import Derived.JoinedCond
import Derived.ShutString
import Derived.ChangeOld
import Derived.Below
import Derived.Carry
import Derived.ChangeSlices
import Derived.Deep.Slices
import Derived.Deep.DeepHandedRow
import Derived.RowKit
import Derived.ChangeShapes
import Derived.SizedLaws
import Derived.ChangeMaps5
import Derived.OrdersHeld
import Derived.Lib.AppendStr
import Derived.Lib.ConvBytes
import Derived.Deep.RegionHeld3
import Derived.Deep.MidRow
import Derived.Laws.BitsAllLaws
import Derived.Sort.Grow
import Derived.Shelf.SlSortCmp.WholeK
import Derived.Shelf.Lay
import Derived.Ground.SlsfProg
import Derived.Sort.LotA
import Derived.Sort.MapsRangeIn
import Derived.RangeFuncSeq
import Derived.RangeFuncKeeps
import Derived.Maps.AppendAt
import Derived.OwnWalk
import Derived.Test.YtpddokbjjhbfgaaGreatRows
import Derived.Test.YtpddokbjjhbfgaaGreatU8
namespace Go.Proofs.YtpddokbjjhbfgaaGreat.ds
open Go.ChangeShapes Go.WideShapes Go.ChangeAt Go.RowKit
set_option linter.unusedVariables false
def hasv (xs : List S) (n c : Int) : Bool := (decide (0 ≤ n ∧ n < 8) && decide (1 ≤ c ∧ c ≤ 1048576)) && dot (ofn xs n) c
theorem take_g {xs : List S} {i : Nat} (hi : i < xs.length) : xs.take (i + 1) = xs.take i ++ [g xs i] := by
  rw [List.take_succ_eq_append_getElem hi]
  unfold g
  rw [List.getD_eq_getElem?_getD, List.getElem?_eq_getElem hi]; rfl
theorem ofn_nil (n : Int) : ofn [] n = none0 n := rfl
set_option linter.unusedSimpArgs false
/-- is it a dot? -/
def isd (n c : Int) : Bool := decide (0 ≤ n ∧ n < 8) && decide (1 ≤ c ∧ c ≤ 1048576)
theorem rdot_ok (n c : Int) (w : World) : Calls Tryz.prog 117 #[.agg #[.int .i64 n, .int .i64 c]] w fun r w' => r = .returned (.bool (isd n c)) ∧ Apart [] w w' := by
  obtain ⟨v, HV⟩ : ∃ v, Hid (v = isd n c) := ⟨_, rfl⟩
  have hv := HV.out
  unfold isd at hv
  by_cases h1 : 0 ≤ n <;> by_cases h2 : n < 8 <;> by_cases h3 : 1 ≤ c <;> by_cases h4 : c ≤ 1048576
  all_goals first
  | (exfalso; omega)
  | skip
  all_goals
    simp only [h1, h2, h3, h4, and_self, and_true, true_and, and_false, false_and, decide_true, decide_false, Bool.and_self, Bool.and_true, Bool.true_and, Bool.and_false, Bool.false_and] at hv
    rw [← HV.out, hv]
    clear HV hv
    go_enter Tryz.func117, Tryz.ntmps117
    go_wp2
    go_ret
    exact ⟨by first | rfl | (simp; omega), (Apart.refl _ _).alloc _⟩
/-- a span has a dot of that node -/
def inS (x : S) (n c : Int) : Bool := decide (x.n = n) && (decide (1 ≤ c) && dot x c)
def inL (xs : List S) (n c : Int) : Bool := xs.any fun x => inS x n c
theorem inL_ofn {gp : Int} {xs : List S} (k : OkL gp xs) (n c : Int) (hc : 1 ≤ c) : inL xs n c = dot (ofn xs n) c := by
  induction xs with
  | nil => simp [inL, ofn, dot_none n c hc]
  | cons x l ih =>
    have ih := ih k.tail
    simp only [inL, List.any_cons] at ih ⊢
    by_cases h : x.n = n
    · have hl : (l.any fun x => inS x n c) = false := by
        rw [List.any_eq_false]
        intro y hy
        have := (List.pairwise_cons.1 k.up).1 y hy
        simp [inS]; intro e; omega
      rw [hl, ofn, if_pos h]
      simp [inS, h, hc]
    · rw [ih, ofn, if_neg h]
      simp [inS, h]
theorem inL_take {xs : List S} {i : Nat} (n c : Int) (hi : i < xs.length) : inL (xs.take (i + 1)) n c = (inL (xs.take i) n c || inS (g xs i) n c) := by
  rw [take_g hi]; simp [inL]
set_option maxHeartbeats 1000000 in
theorem bit_any (n b : Int) (t : Nat) (i : Int) (w : World) (ht : t < 2 ^ 64) (hi : 0 ≤ i) : Calls Tryz.prog 129 #[.agg #[.int .i64 n, .int .i64 b, .int .u64 t], .int .i64 i] w fun r w' => r = .returned (.bool (t.testBit i.toNat)) ∧ Apart [] w w' := by
  by_cases h64 : i < 64
  · obtain ⟨k, rfl⟩ := Int.eq_ofNat_of_zero_le hi
    exact bit_ok n b t k w ht (by omega)
  · rw [Nat.testBit_lt_two_pow (Nat.lt_of_lt_of_le ht (Nat.pow_le_pow_right (by omega) (by omega)))]
    go_enter Tryz.func129, Tryz.ntmps129
    go_wp2
    go_ret
    exact ⟨rfl, (Apart.refl _ _).alloc _⟩
set_option maxHeartbeats 8000000 in
set_option maxRecDepth 100000 in
theorem rin_ok {p : Option Addr} {N cap : Nat} {xs : List S} {w : World} (h : L w p N xs) (hbase : ∀ x ∈ xs, 0 ≤ x.b ∧ x.b ≤ 4194304) (dn dc : Int) (hc : dc ≤ 4194304) (hc0 : -4194304 ≤ dc) : Calls Tryz.prog 118 #[.slice p N cap, .agg #[.int .i64 dn, .int .i64 dc]] w fun r w' => r = .returned (.bool (inL xs dn dc)) ∧ Apart [] w w' := by
  have hlim := h.lim
  have kB := fun W => @new1d w (.int .i64 dn) (.int .i64 dc) 34 W
  have aB : Apart [] w (w.alloc (.cells #[.int .i64 dn, .int .i64 dc] 34)) := (Apart.refl _ _).alloc _
  go_enter Tryz.func118, Tryz.ntmps118
  go_wp2_with fail
  generalize w.alloc (.cells #[.int .i64 dn, .int .i64 dc] 34) = V0 at *
  go_loopw [5] (fun v wr => ∃ i : Nat, i ≤ N ∧ v = .int .i64 i ∧ Apart [] V0 wr ∧ inL (xs.take i) dn dc = false) (fun v _ => N - (intOf v).toNat)
  case atStart => exact ⟨0, Nat.zero_le _, rfl, Apart.refl _ _, rfl⟩
  case round =>
    obtain ⟨i, hi, rfl, aR, hno⟩ := hrel
    by_cases hlt : i < N
    · have HI : Hid (i < xs.length) := by show i < xs.length; rw [h.len]; omega
      obtain ⟨P, o, rfl, hP, hcc⟩ := ((h.kept0 aB).kept0 aR).sp (by rw [h.len]; omega)
      obtain ⟨c0, c1, c2⟩ := hcc i HI.out
      have hxt := h.fit _ (g_mem HI.out)
      have hxb := hbase _ (g_mem HI.out)
      have HT : Hid (inL (xs.take (i + 1)) dn dc = inS (g xs i) dn dc) := by
        show inL (xs.take (i + 1)) dn dc = inS (g xs i) dn dc
        rw [inL_take _ _ HI.out, hno, Bool.false_or]
      have HA : Hid (inS (g xs i) dn dc = true → inL xs dn dc = true) := fun hh => by
        unfold inL
        rw [List.any_eq_true]
        exact ⟨_, g_mem HI.out, hh⟩
      obtain ⟨⟨xn, xb, xt⟩, HX⟩ : ∃ x, Hid (x = g xs i) := ⟨_, rfl⟩
      rw [← HX.out] at c0 c1 c2 hxt hxb HT HA
      simp only at c0 c1 c2 hxt hxb
      clear hcc
      obtain ⟨d0, d1⟩ := kB wr aR
      go_wp2_with fail
      by_cases e1 : xn = dn
      · subst e1
        by_cases e2 : 1 ≤ dc
        · by_cases e3 : dc ≤ xb
          · have HV : Hid (inS ⟨xn, xb, xt⟩ xn dc = true) := by
              show inS ⟨xn, xb, xt⟩ xn dc = true
              simp [inS, e2, dot, e3]
            have e2' : decide (1 ≤ dc) = true := decide_eq_true e2
            have e3' : decide (dc ≤ xb) = true := decide_eq_true e3
            go_quiet (fail)
            go_wp2
            go_ret
            exact ⟨by rw [HA.out HV.out]; rfl, aB.trans (aR.drewN _)⟩
          · have hnn : (0 : Int) ≤ dc - xb - 1 := by omega
            have hs1 : IntKind.i64.wrap (dc - xb) = dc - xb := by rw [IntKind.wrap_i64]; omega
            have hs2 : IntKind.i64.wrap (dc - xb - 1) = dc - xb - 1 := by rw [IntKind.wrap_i64]; omega
            obtain ⟨vb, HB⟩ : ∃ v, Hid (v = xt.testBit (dc - xb - 1).toNat) := ⟨_, rfl⟩
            have HV : Hid (inS ⟨xn, xb, xt⟩ xn dc = vb) := by
              show inS ⟨xn, xb, xt⟩ xn dc = vb
              rw [HB.out]
              unfold inS dot
              rw [decide_eq_true e2, decide_eq_true rfl, decide_eq_false e3]; simp
            obtain ⟨V, HW⟩ : ∃ V, Hid (V = wr) := ⟨_, rfl⟩
            have r0 : ∀ W, Apart [] V W → W.cell? ⟨P, o + i * 3, none⟩ = some (.int .i64 xn) := fun W a => by rw [HW.out] at a; exact (a.cell hP (by simp)).trans c0
            have r1 : ∀ W, Apart [] V W → W.cell? ⟨P, o + i * 3 + 1, none⟩ = some (.int .i64 xb) := fun W a => by rw [HW.out] at a; exact (a.cell hP (by simp)).trans c1
            have r2 : ∀ W, Apart [] V W → W.cell? ⟨P, o + i * 3 + 2, none⟩ = some (.int .u64 xt) := fun W a => by rw [HW.out] at a; exact (a.cell hP (by simp)).trans c2
            have r3 : ∀ W, Apart [] V W → W.cell? ⟨w.heap.size, 0, none⟩ = some (.int .i64 xn) := fun W a => by rw [HW.out] at a; exact (kB W (aR.trans a)).1
            have r4 : ∀ W, Apart [] V W → W.cell? ⟨w.heap.size, 1, none⟩ = some (.int .i64 dc) := fun W a => by rw [HW.out] at a; exact (kB W (aR.trans a)).2
            have aV : Apart [] V wr.drew := by rw [HW.out]; exact (Apart.refl _ _).drew
            have aR' : Apart [] V0 V := by rw [HW.out]; exact aR
            clear c0 c1 c2 d0 d1
            refine wp_region_held_drew (S := fun W => Apart [] V W) (by kernel_rfl) aV (fun hHeld => ?_)
            refine wpAnyH_take (i := 0) (oi := ⟨some 12, _, _, _, _, _⟩) (v := (.slice (some ⟨P, o, none⟩) N cap)) rfl (by kernel_rfl) (by kernel_rfl) (by kernel_rfl) (fun _ _ _ h => h) (Or.inl ⟨by rfl, ?_⟩) (by assumption) ?_
            · intro W hSW; go_simp
            simp only [Act.put, List.setIfInBounds_toArray, List.set_cons_zero, List.set_cons_succ]
            refine wpAnyH_take (i := 1) (oi := ⟨some 13, _, _, _, _, _⟩) (v := (.int .i64 (i : Int))) rfl (by kernel_rfl) (by kernel_rfl) (by kernel_rfl) (fun _ _ _ h => h) (Or.inl ⟨by rfl, ?_⟩) (by assumption) ?_
            · intro W hSW; go_simp
            simp only [Act.put, List.setIfInBounds_toArray, List.set_cons_zero, List.set_cons_succ]
            refine wpAnyH_take (i := 2) (oi := ⟨some 14, _, _, _, _, _⟩) (v := (.pointer (some ⟨P, o + i * 3, none⟩))) rfl (by kernel_rfl) (by kernel_rfl) (by kernel_rfl) (fun _ _ _ h => h) (Or.inl ⟨by rfl, ?_⟩) (by assumption) ?_
            · intro W hSW; go_simp
            simp only [Act.put, List.setIfInBounds_toArray, List.set_cons_zero, List.set_cons_succ]
            refine wpAnyH_take (i := 3) (oi := ⟨some 15, _, _, _, _, _⟩) (v := (.pointer (some ⟨P, o + i * 3, none⟩))) rfl (by kernel_rfl) (by kernel_rfl) (by kernel_rfl) (fun _ _ _ h => h) (Or.inl ⟨by rfl, ?_⟩) (by assumption) ?_
            · intro W hSW; go_simp
            simp only [Act.put, List.setIfInBounds_toArray, List.set_cons_zero, List.set_cons_succ]
            refine wpAnyH_take (i := 4) (oi := ⟨some 16, _, _, _, _, _⟩) (v := (.int .i64 xn)) rfl (by kernel_rfl) (by kernel_rfl) (by kernel_rfl) (fun _ _ _ h => h) (Or.inl ⟨by rfl, ?_⟩) (by assumption) ?_
            · intro W hSW; go_simp
            simp only [Act.put, List.setIfInBounds_toArray, List.set_cons_zero, List.set_cons_succ]
            refine wpAnyH_take (i := 5) (oi := ⟨some 17, _, _, _, _, _⟩) (v := (.pointer (some ⟨w.heap.size, 0, none⟩))) rfl (by kernel_rfl) (by kernel_rfl) (by kernel_rfl) (fun _ _ _ h => h) (Or.inl ⟨by rfl, ?_⟩) (by assumption) ?_
            · intro W hSW; go_simp
            simp only [Act.put, List.setIfInBounds_toArray, List.set_cons_zero, List.set_cons_succ]
            refine wpAnyH_take (i := 6) (oi := ⟨some 18, _, _, _, _, _⟩) (v := (.int .i64 xn)) rfl (by kernel_rfl) (by kernel_rfl) (by kernel_rfl) (fun _ _ _ h => h) (Or.inl ⟨by rfl, ?_⟩) (by assumption) ?_
            · intro W hSW; go_simp
            simp only [Act.put, List.setIfInBounds_toArray, List.set_cons_zero, List.set_cons_succ]
            refine wpAnyH_take (i := 7) (oi := ⟨some 19, _, _, _, _, _⟩) (v := (.bool true)) rfl (by kernel_rfl) (by kernel_rfl) (by kernel_rfl) (fun _ _ _ h => h) (Or.inl ⟨by rfl, ?_⟩) (by assumption) ?_
            · intro W hSW; go_simp
            simp only [Act.put, List.setIfInBounds_toArray, List.set_cons_zero, List.set_cons_succ]
            refine wpAnyH_take (i := 8) (oi := ⟨some 20, _, _, _, _, _⟩) (v := (.bool true)) rfl (by kernel_rfl) (by kernel_rfl) (by kernel_rfl) (fun _ _ _ h => h) (Or.inl ⟨by rfl, ?_⟩) (by assumption) ?_
            · intro W hSW; go_simp
            simp only [Act.put, List.setIfInBounds_toArray, List.set_cons_zero, List.set_cons_succ]
            refine wpAnyH_take (i := 9) (oi := ⟨some 21, _, _, _, _, _⟩) (v := (.pointer (some ⟨w.heap.size, 1, none⟩))) rfl (by kernel_rfl) (by kernel_rfl) (by kernel_rfl) (fun _ _ _ h => h) (Or.inl ⟨by rfl, ?_⟩) (by assumption) ?_
            · intro W hSW; go_simp
            simp only [Act.put, List.setIfInBounds_toArray, List.set_cons_zero, List.set_cons_succ]
            refine wpAnyH_take (i := 10) (oi := ⟨some 22, _, _, _, _, _⟩) (v := (.int .i64 dc)) rfl (by kernel_rfl) (by kernel_rfl) (by kernel_rfl) (fun _ _ _ h => h) (Or.inl ⟨by rfl, ?_⟩) (by assumption) ?_
            · intro W hSW; go_simp
            simp only [Act.put, List.setIfInBounds_toArray, List.set_cons_zero, List.set_cons_succ]
            refine wpAnyH_take (i := 11) (oi := ⟨some 23, _, _, _, _, _⟩) (v := (.bool true)) rfl (by kernel_rfl) (by kernel_rfl) (by kernel_rfl) (fun _ _ _ h => h) (Or.inl ⟨by rfl, ?_⟩) (by assumption) ?_
            · intro W hSW; go_simp
            simp only [Act.put, List.setIfInBounds_toArray, List.set_cons_zero, List.set_cons_succ]
            refine wpAnyH_take (i := 12) (oi := ⟨some 24, _, _, _, _, _⟩) (v := (.bool true)) rfl (by kernel_rfl) (by kernel_rfl) (by kernel_rfl) (fun _ _ _ h => h) (Or.inl ⟨by rfl, ?_⟩) (by assumption) ?_
            · intro W hSW; go_simp
            simp only [Act.put, List.setIfInBounds_toArray, List.set_cons_zero, List.set_cons_succ]
            refine wpAnyH_take (i := 13) (oi := ⟨some 25, _, _, _, _, _⟩) (v := (.bool true)) rfl (by kernel_rfl) (by kernel_rfl) (by kernel_rfl) (fun _ _ _ h => h) (Or.inl ⟨by rfl, ?_⟩) (by assumption) ?_
            · intro W hSW; go_simp
            simp only [Act.put, List.setIfInBounds_toArray, List.set_cons_zero, List.set_cons_succ]
            refine wpAnyH_take (i := 14) (oi := ⟨some 26, _, _, _, _, _⟩) (v := (.pointer (some ⟨w.heap.size, 1, none⟩))) rfl (by kernel_rfl) (by kernel_rfl) (by kernel_rfl) (fun _ _ _ h => h) (Or.inl ⟨by rfl, ?_⟩) (by assumption) ?_
            · intro W hSW; go_simp
            simp only [Act.put, List.setIfInBounds_toArray, List.set_cons_zero, List.set_cons_succ]
            refine wpAnyH_take (i := 15) (oi := ⟨some 27, _, _, _, _, _⟩) (v := (.int .i64 dc)) rfl (by kernel_rfl) (by kernel_rfl) (by kernel_rfl) (fun _ _ _ h => h) (Or.inl ⟨by rfl, ?_⟩) (by assumption) ?_
            · intro W hSW; go_simp
            simp only [Act.put, List.setIfInBounds_toArray, List.set_cons_zero, List.set_cons_succ]
            refine wpAnyH_take (i := 16) (oi := ⟨some 28, _, _, _, _, _⟩) (v := (.slice (some ⟨P, o, none⟩) N cap)) rfl (by kernel_rfl) (by kernel_rfl) (by kernel_rfl) (fun _ _ _ h => h) (Or.inl ⟨by rfl, ?_⟩) (by assumption) ?_
            · intro W hSW; go_simp
            simp only [Act.put, List.setIfInBounds_toArray, List.set_cons_zero, List.set_cons_succ]
            refine wpAnyH_take (i := 17) (oi := ⟨some 29, _, _, _, _, _⟩) (v := (.int .i64 (i : Int))) rfl (by kernel_rfl) (by kernel_rfl) (by kernel_rfl) (fun _ _ _ h => h) (Or.inl ⟨by rfl, ?_⟩) (by assumption) ?_
            · intro W hSW; go_simp
            simp only [Act.put, List.setIfInBounds_toArray, List.set_cons_zero, List.set_cons_succ]
            refine wpAnyH_take (i := 18) (oi := ⟨some 30, _, _, _, _, _⟩) (v := (.pointer (some ⟨P, o + i * 3, none⟩))) rfl (by kernel_rfl) (by kernel_rfl) (by kernel_rfl) (fun _ _ _ h => h) (Or.inl ⟨by rfl, ?_⟩) (by assumption) ?_
            · intro W hSW; go_simp
            simp only [Act.put, List.setIfInBounds_toArray, List.set_cons_zero, List.set_cons_succ]
            refine wpAnyH_take (i := 19) (oi := ⟨some 31, _, _, _, _, _⟩) (v := (.pointer (some ⟨P, o + i * 3 + 1, none⟩))) rfl (by kernel_rfl) (by kernel_rfl) (by kernel_rfl) (fun _ _ _ h => h) (Or.inl ⟨by rfl, ?_⟩) (by assumption) ?_
            · intro W hSW; go_simp
            simp only [Act.put, List.setIfInBounds_toArray, List.set_cons_zero, List.set_cons_succ]
            refine wpAnyH_take (i := 20) (oi := ⟨some 32, _, _, _, _, _⟩) (v := (.int .i64 xb)) rfl (by kernel_rfl) (by kernel_rfl) (by kernel_rfl) (fun _ _ _ h => h) (Or.inl ⟨by rfl, ?_⟩) (by assumption) ?_
            · intro W hSW; go_simp
            simp only [Act.put, List.setIfInBounds_toArray, List.set_cons_zero, List.set_cons_succ]
            refine wpAnyH_take (i := 21) (oi := ⟨some 33, _, _, _, _, _⟩) (v := (.bool false)) rfl (by kernel_rfl) (by kernel_rfl) (by kernel_rfl) (fun _ _ _ h => h) (Or.inl ⟨by rfl, ?_⟩) (by assumption) ?_
            · intro W hSW; go_simp
            simp only [Act.put, List.setIfInBounds_toArray, List.set_cons_zero, List.set_cons_succ]
            refine wpAnyH_take (i := 22) (oi := ⟨some 34, _, _, _, _, _⟩) (v := (.bool false)) rfl (by kernel_rfl) (by kernel_rfl) (by kernel_rfl) (fun _ _ _ h => h) (Or.inl ⟨by rfl, ?_⟩) (by assumption) ?_
            · intro W hSW; go_simp
            simp only [Act.put, List.setIfInBounds_toArray, List.set_cons_zero, List.set_cons_succ]
            refine wpAnyH_take (i := 23) (oi := ⟨some 35, _, _, _, _, _⟩) (v := (.slice (some ⟨P, o, none⟩) N cap)) rfl (by kernel_rfl) (by kernel_rfl) (by kernel_rfl) (fun _ _ _ h => h) (Or.inl ⟨by rfl, ?_⟩) (by assumption) ?_
            · intro W hSW; go_simp
            simp only [Act.put, List.setIfInBounds_toArray, List.set_cons_zero, List.set_cons_succ]
            refine wpAnyH_take (i := 24) (oi := ⟨some 36, _, _, _, _, _⟩) (v := (.int .i64 (i : Int))) rfl (by kernel_rfl) (by kernel_rfl) (by kernel_rfl) (fun _ _ _ h => h) (Or.inl ⟨by rfl, ?_⟩) (by assumption) ?_
            · intro W hSW; go_simp
            simp only [Act.put, List.setIfInBounds_toArray, List.set_cons_zero, List.set_cons_succ]
            refine wpAnyH_take (i := 25) (oi := ⟨some 37, _, _, _, _, _⟩) (v := (.pointer (some ⟨P, o + i * 3, none⟩))) rfl (by kernel_rfl) (by kernel_rfl) (by kernel_rfl) (fun _ _ _ h => h) (Or.inl ⟨by rfl, ?_⟩) (by assumption) ?_
            · intro W hSW; go_simp
            simp only [Act.put, List.setIfInBounds_toArray, List.set_cons_zero, List.set_cons_succ]
            refine wpAnyH_take (i := 26) (oi := ⟨some 38, _, _, _, _, _⟩) (v := (.agg #[.int .i64 xn, .int .i64 xb, .int .u64 xt])) rfl (by kernel_rfl) (by kernel_rfl) (by kernel_rfl) (fun _ _ _ h => h) (Or.inl ⟨by rfl, ?_⟩) (by assumption) ?_
            · intro W hSW; go_simp
            simp only [Act.put, List.setIfInBounds_toArray, List.set_cons_zero, List.set_cons_succ]
            refine wpAnyH_take (i := 27) (oi := ⟨some 39, _, _, _, _, _⟩) (v := (.pointer (some ⟨w.heap.size, 1, none⟩))) rfl (by kernel_rfl) (by kernel_rfl) (by kernel_rfl) (fun _ _ _ h => h) (Or.inl ⟨by rfl, ?_⟩) (by assumption) ?_
            · intro W hSW; go_simp
            simp only [Act.put, List.setIfInBounds_toArray, List.set_cons_zero, List.set_cons_succ]
            refine wpAnyH_take (i := 28) (oi := ⟨some 40, _, _, _, _, _⟩) (v := (.int .i64 dc)) rfl (by kernel_rfl) (by kernel_rfl) (by kernel_rfl) (fun _ _ _ h => h) (Or.inl ⟨by rfl, ?_⟩) (by assumption) ?_
            · intro W hSW; go_simp
            simp only [Act.put, List.setIfInBounds_toArray, List.set_cons_zero, List.set_cons_succ]
            refine wpAnyH_take (i := 29) (oi := ⟨some 41, _, _, _, _, _⟩) (v := (.slice (some ⟨P, o, none⟩) N cap)) rfl (by kernel_rfl) (by kernel_rfl) (by kernel_rfl) (fun _ _ _ h => h) (Or.inl ⟨by rfl, ?_⟩) (by assumption) ?_
            · intro W hSW; go_simp
            simp only [Act.put, List.setIfInBounds_toArray, List.set_cons_zero, List.set_cons_succ]
            refine wpAnyH_take (i := 30) (oi := ⟨some 42, _, _, _, _, _⟩) (v := (.int .i64 (i : Int))) rfl (by kernel_rfl) (by kernel_rfl) (by kernel_rfl) (fun _ _ _ h => h) (Or.inl ⟨by rfl, ?_⟩) (by assumption) ?_
            · intro W hSW; go_simp
            simp only [Act.put, List.setIfInBounds_toArray, List.set_cons_zero, List.set_cons_succ]
            refine wpAnyH_take (i := 31) (oi := ⟨some 43, _, _, _, _, _⟩) (v := (.pointer (some ⟨P, o + i * 3, none⟩))) rfl (by kernel_rfl) (by kernel_rfl) (by kernel_rfl) (fun _ _ _ h => h) (Or.inl ⟨by rfl, ?_⟩) (by assumption) ?_
            · intro W hSW; go_simp
            simp only [Act.put, List.setIfInBounds_toArray, List.set_cons_zero, List.set_cons_succ]
            refine wpAnyH_take (i := 32) (oi := ⟨some 44, _, _, _, _, _⟩) (v := (.pointer (some ⟨P, o + i * 3 + 1, none⟩))) rfl (by kernel_rfl) (by kernel_rfl) (by kernel_rfl) (fun _ _ _ h => h) (Or.inl ⟨by rfl, ?_⟩) (by assumption) ?_
            · intro W hSW; go_simp
            simp only [Act.put, List.setIfInBounds_toArray, List.set_cons_zero, List.set_cons_succ]
            refine wpAnyH_take (i := 33) (oi := ⟨some 45, _, _, _, _, _⟩) (v := (.int .i64 xb)) rfl (by kernel_rfl) (by kernel_rfl) (by kernel_rfl) (fun _ _ _ h => h) (Or.inl ⟨by rfl, ?_⟩) (by assumption) ?_
            · intro W hSW; go_simp
            simp only [Act.put, List.setIfInBounds_toArray, List.set_cons_zero, List.set_cons_succ]
            refine wpAnyH_take (i := 34) (oi := ⟨some 46, _, _, _, _, _⟩) (v := (.int .i64 (dc - xb))) rfl (by kernel_rfl) (by kernel_rfl) (by kernel_rfl) (fun _ _ _ h => h) (Or.inl ⟨by rfl, ?_⟩) (by assumption) ?_
            · intro W hSW; go_simp
            simp only [Act.put, List.setIfInBounds_toArray, List.set_cons_zero, List.set_cons_succ]
            refine wpAnyH_take (i := 35) (oi := ⟨some 47, _, _, _, _, _⟩) (v := (.int .i64 (dc - xb - 1))) rfl (by kernel_rfl) (by kernel_rfl) (by kernel_rfl) (fun _ _ _ h => h) (Or.inl ⟨by rfl, ?_⟩) (by assumption) ?_
            · intro W hSW; go_simp
            simp only [Act.put, List.setIfInBounds_toArray, List.set_cons_zero, List.set_cons_succ]
            refine wpAnyH_ready (rs := [36]) (by kernel_rfl) (by simp) ?_
            refine AllReadyH.cons rfl (fun KK hKK => ?_) AllReadyH.nil
            go_simp
            refine (bit_any xn xb xt (dc - xb - 1) _ hxt hnn).mono ?_
            rintro r w5 ⟨rfl, a5⟩
            dsimp only
            have a6 := aV.trans a5
            rw [← HB.out]
            refine hKK.out _ _ (by assumption) (fun hHeld => ?_)
            clear hKK KK
            refine wpAnyH_take (i := 37) (oi := ⟨some 49, _, _, _, _, _⟩) (v := (.bool vb)) rfl (by kernel_rfl) (by kernel_rfl) (by kernel_rfl) (fun _ _ _ h => h) (Or.inl ⟨by rfl, ?_⟩) (by assumption) ?_
            · intro W hSW; go_simp
            simp only [Act.put, List.setIfInBounds_toArray, List.set_cons_zero, List.set_cons_succ]
            refine wpAnyH_take (i := 38) (oi := ⟨some 50, _, _, _, _, _⟩) (v := (.bool vb)) rfl (by kernel_rfl) (by kernel_rfl) (by kernel_rfl) (fun _ _ _ h => h) (Or.inl ⟨by rfl, ?_⟩) (by assumption) ?_
            · intro W hSW; go_simp
            simp only [Act.put, List.setIfInBounds_toArray, List.set_cons_zero, List.set_cons_succ]
            refine wpAnyH_done (by kernel_rfl) ?_ _
            have a7 := aR'.trans a6
            clear r0 r1 r2 r3 r4
            cases vb
            · go_wp2
              go_roundw
              case rel => exact ⟨i + 1, by omega, rfl, a7, by rw [HT.out]; exact HV.out⟩
              case measure => simp [intOf]; omega
            · go_wp2
              go_ret
              exact ⟨by rw [HA.out HV.out]; rfl, aB.trans a7⟩
        · have HV : Hid (inS ⟨xn, xb, xt⟩ xn dc = false) := by
            show inS ⟨xn, xb, xt⟩ xn dc = false
            simp [inS, e2]
          have e2' : decide (1 ≤ dc) = false := decide_eq_false e2
          go_quiet (fail)
          go_wp2
          go_roundw
          case rel => exact ⟨i + 1, by omega, rfl, aR.drewN _, by rw [HT.out]; exact HV.out⟩
          case measure => simp [intOf]; omega
      · have HV : Hid (inS ⟨xn, xb, xt⟩ dn dc = false) := by
          show inS ⟨xn, xb, xt⟩ dn dc = false
          simp [inS, e1]
        have e1' : (xn == dn) = false := by simp; exact e1
        go_quiet (fail)
        go_wp2
        go_roundw
        case rel => exact ⟨i + 1, by omega, rfl, aR.drewN _, by rw [HT.out]; exact HV.out⟩
        case measure => simp [intOf]; omega
    · go_wp2
      go_ret
      refine ⟨?_, aB.trans aR⟩
      obtain rfl : i = N := by omega
      have : xs.take i = xs := List.take_of_length_le (by rw [h.len]; omega)
      rw [← this, hno]; rfl
theorem right_yes {p : Option Addr} {N cap : Nat} {xs : List S} {gap : Int} {w : World} (h : L w p N xs) (hg : 1 ≤ gap ∧ gap ≤ 64) (k : OkL gap xs) : Calls Tryz.prog 116 #[.slice p N cap, .int .i64 gap] w fun r w' => r = .returned (.bool true) ∧ Apart [] w w' := by
  refine (right_ok h hg).mono ?_
  rintro r w1 ⟨⟨v, rfl, hv⟩, a1⟩
  exact ⟨by rw [hv.2 k], a1⟩
theorem right_no {p : Option Addr} {N cap : Nat} {xs : List S} {gap : Int} {w : World} (h : L w p N xs) (hg : 1 ≤ gap ∧ gap ≤ 64) (k : ¬ OkL gap xs) : Calls Tryz.prog 116 #[.slice p N cap, .int .i64 gap] w fun r w' => r = .returned (.bool false) ∧ Apart [] w w' := by
  refine (right_ok h hg).mono ?_
  rintro r w1 ⟨⟨v, rfl, hv⟩, a1⟩
  cases v
  · exact ⟨rfl, a1⟩
  · exact absurd (hv.1 rfl) k
theorem OkL.bases {gp : Int} {xs : List S} (k : OkL gp xs) : ∀ x ∈ xs, 0 ≤ x.b ∧ x.b ≤ 4194304 := fun x hx => ⟨(k.ok x hx).b0, by have := (k.ok x hx).bM; omega⟩
theorem hasv_isd (xs : List S) (n c : Int) : hasv xs n c = (isd n c && dot (ofn xs n) c) := rfl
theorem hasv_nil (n c : Int) : hasv [] n c = false := by
  rw [hasv_isd]
  cases h : isd n c
  · rfl
  · have h1 : 1 ≤ c := by
      unfold isd at h
      rw [Bool.and_eq_true, decide_eq_true_eq, decide_eq_true_eq] at h
      exact h.2.1
    rw [ofn_nil, dot_none n c h1]; rfl
set_option maxHeartbeats 2000000 in
theorem rhas_ok {p : Option Addr} {N cap : Nat} {xs : List S} {w : World} (dn dc : Int) (h : L w p N xs) (v : Bool) (hv : v = hasv (norm xs) dn dc) : Calls Tryz.prog 91 #[.slice p N cap, .agg #[.int .i64 dn, .int .i64 dc]] w fun r w' => r = .returned (.bool v) ∧ Apart [] w w' := by
  have kB := fun W => @new1d w (.int .i64 dn) (.int .i64 dc) 34 W
  have aB : Apart [] w (w.alloc (.cells #[.int .i64 dn, .int .i64 dc] 34)) := (Apart.refl _ _).alloc _
  have HV : Hid (v = hasv (norm xs) dn dc) := hv
  clear hv
  by_cases k : OkL 64 xs
  · go_enter Tryz.func91, Tryz.ntmps91
    go_wp2_with fail
    generalize w.alloc (.cells #[.int .i64 dn, .int .i64 dc] 34) = V0 at *
    refine (right_yes (h.kept0 aB) (by decide) k).mono ?_
    rintro r w1 ⟨rfl, a1⟩
    dsimp only
    obtain ⟨d0, d1⟩ := kB w1 a1
    go_wp2_with fail
    refine (rdot_ok dn dc w1).mono ?_
    obtain ⟨u, HU⟩ : ∃ u, Hid (u = isd dn dc) := ⟨_, rfl⟩
    rw [← HU.out]
    rintro r w2 ⟨rfl, a2⟩
    dsimp only
    have a3 := a1.trans a2
    obtain ⟨e0, e1⟩ := kB w2 a3
    clear d0 d1
    cases u
    · go_wp2
      go_ret
      refine ⟨?_, aB.trans a3⟩
      rw [HV.out, hasv_isd, ← HU.out]; rfl
    · have hd : (0 ≤ dn ∧ dn < 8) ∧ 1 ≤ dc ∧ dc ≤ 1048576 := by
        have := HU.out
        unfold isd at this
        have h2 := this.symm
        rw [Bool.and_eq_true, decide_eq_true_eq, decide_eq_true_eq] at h2
        exact h2
      have hin := rin_ok (cap := cap) ((h.kept0 aB).kept0 a3) k.bases dn dc (by omega) (by omega)
      have e : inL xs dn dc = v := by
        rw [HV.out, hasv_isd, ← HU.out, norm_of k, inL_ofn k dn dc hd.2.1]; rfl
      rw [e] at hin
      clear hd
      go_wp2_with (go_at_call 118; refine hin.mono ?_; rintro r w4 ⟨rfl, a4⟩)
      go_ret
      exact ⟨rfl, aB.trans (a3.trans a4)⟩
  · go_enter Tryz.func91, Tryz.ntmps91
    go_wp2_with fail
    generalize w.alloc (.cells #[.int .i64 dn, .int .i64 dc] 34) = V0 at *
    refine (right_no (h.kept0 aB) (by decide) k).mono ?_
    rintro r w1 ⟨rfl, a1⟩
    dsimp only
    obtain ⟨d0, d1⟩ := kB w1 a1
    go_wp2_with fail
    refine (rdot_ok dn dc w1).mono ?_
    obtain ⟨u, HU⟩ : ∃ u, Hid (u = isd dn dc) := ⟨_, rfl⟩
    rw [← HU.out]
    rintro r w2 ⟨rfl, a2⟩
    dsimp only
    have a3 := a1.trans a2
    go_wp2
    go_ret
    refine ⟨?_, aB.trans a3⟩
    rw [HV.out, norm_no k, hasv_nil]; rfl
theorem has_any {p : Option Addr} {N cap : Nat} {xs : List S} {w : World} (dn dc : Int) (h : L w p N xs) (v : Bool) (hv : v = hasv (norm xs) dn dc) : Calls Tryz.prog 52 #[.slice p N cap, .agg #[.int .i64 dn, .int .i64 dc]] w fun r w' => r = .returned (.bool v) ∧ Apart [] w w' := by
  subst hv
  by_cases hd : IsDot dn dc
  · have := has_yes (cap := cap) dn dc h hd
    unfold hasv
    rw [decide_eq_true hd.1, decide_eq_true hd.2]
    exact this
  · have := has_no (p := p) (N := N) (cap := cap) (w := w) dn dc hd
    have e : hasv (norm xs) dn dc = false := by
      unfold hasv
      by_cases h1 : 0 ≤ dn ∧ dn < 8
      · rw [decide_eq_false (p := 1 ≤ dc ∧ dc ≤ 1048576) (fun h2 => hd ⟨h1, h2⟩)]; simp
      · rw [decide_eq_false h1]; simp
    rw [e]
    exact this
end Go.Proofs.YtpddokbjjhbfgaaGreat.ds

