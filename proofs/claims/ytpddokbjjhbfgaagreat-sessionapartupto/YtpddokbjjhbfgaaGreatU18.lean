import Derived.Test.YtpddokbjjhbfgaaGreatChecked
import Derived.WalkKit
import Derived.ProofKit
import Derived.Maps.OwnSet
import Derived.Maps.RangeWalk
import Derived.DeepKeys4
import Derived.MapViews
import Derived.StringKeys
import Derived.Lib.TrailingZeros
import Derived.OpenShut
import Derived.Deep.QuietTactic
import Derived.BigQuiet
import Derived.BigRegion
import Derived.Laws.CopyOwn
import Derived.Laws.Bits64b
import Derived.Laws.MathBits
import Derived.Laws.ShiftsVarLaws
import Derived.WalkSmall
import Derived.Laws.ResultCell
import Derived.Lib.BitFns
import Derived.Laws.StructEq
import Derived.Deep.RegionHeld
import Derived.ArgAppend
import Derived.Deep.RegionLaw
import Derived.Deep.DeepAppendRoom
import Derived.Sort.WalkA
import Derived.Laws.Strings
import Derived.Deep.CutBlock
import Derived.Great.BuildSlice
import Derived.Laws.BytesString
import Derived.Laws.AppendOwnNone
import Derived.Lib.Overlaps
import Derived.Lib.AppendZerosOnto
import Derived.Laws.NewBlocks
import Derived.Laws.Externs
import Derived.Laws.IdiomCopy
import Derived.RangeFuncNested
import Derived.RangeFuncBound
import Derived.RangeFuncCalls
import Derived.RangeFuncLeaves
import Derived.Shelf.Abstract
import Derived.Shelf.RegionOpen
import Derived.OwnWalkIn
import Derived.TacticsInMore
import Derived.LoopNIn
import Derived.LoopIn
import Derived.Deep.CutRange
import Derived.Deep.OwnRows
import Derived.Lib.Walk
import Derived.Lib.SliceRun
import GoSem.Claim
import GoSem.ClaimJoined
import GoSem.ClaimMapViews
import Derived.JoinedTies
import Derived.KernelRfl
import Derived.Lib.LaidTab
import Derived.JoinedCond
import Derived.ShutString
import Derived.ChangeOld
import Derived.Below
import Derived.Carry
import Derived.ChangeSlices
import Derived.Deep.Slices
import Derived.Deep.DeepHandedRow
import Derived.RowKit
import Derived.ChangeShapes
import Derived.SizedLaws
import Derived.ChangeMaps5
import Derived.OrdersHeld
import Derived.Lib.AppendStr
import Derived.Lib.ConvBytes
import Derived.Deep.RegionHeld3
import Derived.Deep.MidRow
import Derived.Laws.BitsAllLaws
import Derived.Sort.Grow
import Derived.Shelf.SlSortCmp.WholeK
import Derived.Shelf.Lay
import Derived.Ground.SlsfProg
import Derived.Sort.LotA
import Derived.Sort.MapsRangeIn
import Derived.RangeFuncSeq
import Derived.RangeFuncKeeps
import Derived.Maps.AppendAt
import Derived.OwnWalk
import Derived.Test.YtpddokbjjhbfgaaGreatRows
import Derived.Test.YtpddokbjjhbfgaaGreatU17
namespace Go.Proofs.YtpddokbjjhbfgaaGreat.rg
open Go.ChangeShapes Go.WideShapes Go.ChangeAt Go.RowKit Go.Sort
set_option linter.unusedVariables false
set_option linter.unusedSimpArgs false
/-- a slice of ints in a row that nobody else has -/
structure Ob (w : World) (P o n cap : Nat) (zs : List Int) : Prop where
  ex : ∃ cur, w.heap[P]? = some (.cells cur 3 (0, 0)) ∧ o + cap ≤ cur.size ∧ cap ≤ maxLen ∧ ∀ i, i < n → cur[o + i]? = some (.int .i64 (zs.getD i 0))
  le : n ≤ cap
  len : zs.length = n
theorem Ob.lt {w : World} {P o n cap : Nat} {zs : List Int} (h : Ob w P o n cap zs) : P < w.heap.size := by
  obtain ⟨cur, hr, _⟩ := h.ex
  exact lt_of_heap hr
theorem Ob.ir {w : World} {P o n cap : Nat} {zs : List Int} (h : Ob w P o n cap zs) : Ir w (some ⟨P, o, none⟩) n zs := by
  obtain ⟨cur, hr, hs, _, hc⟩ := h.ex
  exact ⟨h.len, fun _ => ⟨P, o, rfl, lt_of_heap hr, fun i hi => by simp only [World.cell?, hr]; simpa using hc i hi⟩⟩
theorem Ob.kept {w w' : World} {P o n cap : Nat} {zs : List Int} {X : List Nat} (h : Ob w P o n cap zs) (a : Apart X w w') (hx : P ∉ X) : Ob w' P o n cap zs := by
  obtain ⟨cur, hr, r⟩ := h.ex
  exact ⟨⟨cur, (a.block P (lt_of_heap hr) hx).trans hr, r⟩, h.le, h.len⟩
theorem Ob.kept0 {w w' : World} {P o n cap : Nat} {zs : List Int} (h : Ob w P o n cap zs) (a : Apart [] w w') : Ob w' P o n cap zs := h.kept a (by simp)
theorem OwnR.ob {w w' : World} {P n cap : Nat} {xs : List Nat} (h : OwnI w w' (some ⟨P, 0, none⟩) n cap xs) : Ob w' P 0 n cap (ints xs) := by
  have hi := h.ir.len
  obtain ⟨hl, ⟨hv, _⟩ | ⟨g, cap', cur, hv, hb, hr, hle, hcm, hcs, htk⟩⟩ := id h.own
  · cases hv
  · simp only [Value.slice.injEq, Option.some.injEq, Addr.mk.injEq, and_true, true_and] at hv
    obtain ⟨rfl, rfl⟩ := hv
    refine ⟨⟨cur, hr, by omega, hcm, fun i hi => ?_⟩, hle, hi⟩
    have h1 := h.cellI i hi
    simp only [World.cell?, hr] at h1
    rw [Nat.zero_add]
    simpa using h1
/-- its first k, and what is behind them -/
theorem Ob.first {w : World} {P o n cap : Nat} {zs : List Int} (h : Ob w P o n cap zs) (k : Nat) (hk : k ≤ n) : Ob w P o k cap (zs.take k) := by
  obtain ⟨cur, hr, hs, hm, hc⟩ := h.ex
  have := h.le
  have hl := h.len
  refine ⟨⟨cur, hr, hs, hm, fun i hi => ?_⟩, by omega, by rw [List.length_take]; omega⟩
  rw [hc i (by omega)]
  simp [List.getD_eq_getElem?_getD, hi]
theorem Ob.rest {w : World} {P o n cap : Nat} {zs : List Int} (h : Ob w P o n cap zs) (k : Nat) (hk : k ≤ n) : Ob w P (o + k) (n - k) (cap - k) (zs.drop k) := by
  obtain ⟨cur, hr, hs, hm, hc⟩ := h.ex
  have := h.le
  have hl := h.len
  refine ⟨⟨cur, hr, by omega, by omega, fun i hi => ?_⟩, by omega, by rw [List.length_drop]; omega⟩
  rw [Nat.add_assoc, hc (k + i) (by omega)]
  simp [List.getD_eq_getElem?_getD]
theorem Ob.none {w : World} {P o n cap : Nat} {zs : List Int} (h : Ob w P o n cap zs) : Ob w P o 0 0 [] := by
  obtain ⟨cur, hr, hs, hm, hc⟩ := h.ex
  exact ⟨⟨cur, hr, by omega, Nat.zero_le _, fun i hi => absurd hi (Nat.not_lt_zero _)⟩, Nat.le_refl _, rfl⟩
structure SplPost (w w' : World) (r : Ending) (n k : Nat) (xs : List Nat) : Prop where
  ex : ∃ P cap ad, r = .returned (.tuple #[.slice (some ⟨P, 0, none⟩) k cap, .slice (some ad) (n - k) (cap - k), .int .i64 0]) ∧ w.heap.size ≤ P ∧ Apart [] w w' ∧ Ob w' P 0 k cap (ints (xs.take k)) ∧ ∃ o, ad = ⟨P, o, none⟩ ∧ Ob w' P o (n - k) (cap - k) (ints (xs.drop k))
set_option maxHeartbeats 2000000 in
theorem split_ok {w : World} {R n m : Nat} (G : Rg w R n m) (r : Nat) (h : r < m) (k : Nat) (hk1 : 1 ≤ k) (hk : k ≤ n) : Calls Tryz.prog 41 #[.pointer (some ⟨R, 0, none⟩), .int .i64 r, .int .i64 k] w fun e w' => SplPost w w' e n k (ord n r) := by
  have := G.n1; have := G.n8; have := G.m16
  have k1 : ¬ ((k : Int) < 1) := by omega
  have k2 : ¬ ((k : Int) > (n : Int)) := by omega
  have HG : Hid (Rg w R n m) := G
  clear G
  go_enter Tryz.func41, Tryz.ntmps41
  go_wp2_with fail
  refine (order_ok HG.out r h).mono ?_
  rintro e w1 ⟨⟨P, cap, rfl, O, hle, hc63⟩⟩
  dsimp only
  have c0 := (HG.out.kept0 O.ap).c0
  have B := O.ob
  have hPn := O.new P rfl
  have aP := O.ap
  have hcc : ∃ ad : Addr, (if cap = k then some (⟨P, 0, none⟩ : Addr) else some ⟨P, k, none⟩) = some ad ∧ ∃ o, ad = ⟨P, o, none⟩ ∧ Ob w1 P o (n - k) (cap - k) (ints ((ord n r).drop k)) := by
    by_cases hck : cap = k
    · refine ⟨⟨P, 0, none⟩, by rw [if_pos hck], 0, rfl, ?_⟩
      have e1 : n - k = 0 := by omega
      have e2 : cap - k = 0 := by omega
      have e3 : ints ((ord n r).drop k) = [] := by
        have hl : (ints (ord n r)).length = n := B.len
        simp only [ints, List.length_map] at hl
        simp [ints, List.drop_eq_nil_iff]; omega
      rw [e1, e2, e3]
      exact B.none
    · refine ⟨⟨P, k, none⟩, by rw [if_neg hck], k, rfl, ?_⟩
      have := B.rest k hk
      rw [Nat.zero_add] at this
      rw [show ints ((ord n r).drop k) = (ints (ord n r)).drop k by simp [ints]]
      exact this
  obtain ⟨ad, hadif, o, Ho, B2⟩ := hcc
  have HO : Hid (ad = ⟨P, o, none⟩) := Ho
  have B1 : Ob w1 P 0 k cap (ints ((ord n r).take k)) := by
    rw [show ints ((ord n r).take k) = (ints (ord n r)).take k by simp [ints]]
    exact B.first k hk
  clear Ho O B
  have hnk : ¬ cap < k := by omega
  go_wp2_with fail
  go_region
  go_wp2_with fail
  go_ret3
  exact ⟨⟨P, cap, ad, rfl, hPn, aP.drew, B1.kept0 ((Apart.refl _ _).drew), o, HO.out, B2.kept0 ((Apart.refl _ _).drew)⟩⟩
/-- what a list that is answered is -/
structure LstPost (w w' : World) (r : Ending) (n : Nat) (xs : List Nat) : Prop where
  ex : ∃ P o cap, r = .returned (.tuple #[.slice (some ⟨P, o, none⟩) n cap, .int .i64 0]) ∧ w.heap.size ≤ P ∧ Apart [] w w' ∧ Ob w' P o n cap (ints xs)
theorem pref_ok {w : World} {R n m : Nat} (G : Rg w R n m) (r : Nat) (h : r < m) (k : Nat) (hk1 : 1 ≤ k) (hk : k ≤ n) : Calls Tryz.prog 21 #[.pointer (some ⟨R, 0, none⟩), .int .i64 r, .int .i64 k] w fun e w' => LstPost w w' e k ((ord n r).take k) := by
  go_enter Tryz.func21, Tryz.ntmps21
  go_wp2_with fail
  refine (split_ok G r h k hk1 hk).mono ?_
  rintro e w1 ⟨⟨P, cap, ad, rfl, hP, a1, B1, o, rfl, B2⟩⟩
  dsimp only
  go_wp2_with fail
  go_ret2
  exact ⟨⟨P, 0, cap, rfl, hP, a1, B1⟩⟩
end Go.Proofs.YtpddokbjjhbfgaaGreat.rg
namespace Go.Proofs.YtpddokbjjhbfgaaGreat.ds
open Go.ChangeShapes Go.WideShapes Go.ChangeAt Go.RowKit Go.Sort
set_option linter.unusedVariables false
set_option linter.unusedSimpArgs false
set_option maxRecDepth 100000 in
theorem member_ok {w : World} {p : Option Addr} {n cap : Nat} {xs : List Int} (h : Ird w p n xs) (hn : n ≤ 1000000) (v : Int) : Calls Tryz.prog 24 #[.slice p n cap, .int .i64 v] w fun r w' => r = .returned (.bool (decide (v ∈ xs))) ∧ w' = w := by
  have HR := hid h
  have hlen := h.len
  clear h
  obtain ⟨ob, Hob⟩ : ∃ b : Bool, Hid (b = decide (v ∈ xs)) := ⟨_, rfl⟩
  rw [← Hob.out]
  go_enter Tryz.func24, Tryz.ntmps24
  go_wp2_with fail
  go_loopw [5] (fun a wt => ∃ i : Nat, a = .int .i64 (i : Nat) ∧ i ≤ n ∧ wt = w ∧ Hid (∀ j (hj : j < xs.length), j < i → xs[j] ≠ v)) (fun a _ => n - (intOf a).toNat)
  case atStart => exact ⟨0, rfl, Nat.zero_le _, rfl, hid (fun j _ hj => by omega)⟩
  case round =>
    obtain ⟨i, rfl, hile, rfl, HI⟩ := hrel
    by_cases hlt : i < n
    · have hlti : ((i : Nat) : Int) < ((n : Nat) : Int) := by omega
      obtain ⟨P, o, rfl, hP, hc⟩ := HR.out.rd (by omega)
      have z := hc i (by omega)
      obtain ⟨x, Hx⟩ : ∃ x : Int, Hid (x = xs[i]'(by omega)) := ⟨_, hid rfl⟩
      rw [← Hx.out] at z
      clear hc
      by_cases he : x = v
      · have hob : ob = true := by rw [Hob.out]; exact decide_eq_true (by rw [← he, Hx.out]; exact List.getElem_mem _)
        go_wp2_with fail
        go_ret
        exact ⟨by first | rfl | (rw [hob]; rfl), rfl⟩
      · go_wp2_with fail
        go_roundw
        case rel => exact ⟨i + 1, by go_num, by omega, by first | rfl | trivial, hid (fun j hj hj2 => by
          by_cases hji : j = i
          · subst hji; rw [← Hx.out]; exact he
          · exact HI.out j hj (by omega))⟩
        case measure => simp [intOf]; omega
    · have hlti : ¬ ((i : Nat) : Int) < ((n : Nat) : Int) := by omega
      have hob : ob = false := by
        rw [Hob.out]
        refine decide_eq_false (fun hm => ?_)
        obtain ⟨j, hj, e⟩ := List.mem_iff_getElem.1 hm
        exact HI.out j hj (by omega) e
      go_wp2_with fail
      go_ret
      exact ⟨by first | rfl | (rw [hob]; rfl), rfl⟩
end Go.Proofs.YtpddokbjjhbfgaaGreat.ds
