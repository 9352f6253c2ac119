import Derived.Test.YtpddokbjjhbfgaaGreatChecked
import Derived.WalkKit
import Derived.ProofKit
import Derived.Maps.OwnSet
import Derived.Maps.RangeWalk
import Derived.DeepKeys4
import Derived.MapViews
import Derived.StringKeys
import Derived.Lib.TrailingZeros
import Derived.OpenShut
import Derived.Deep.QuietTactic
import Derived.BigQuiet
import Derived.BigRegion
import Derived.Laws.CopyOwn
import Derived.Laws.Bits64b
import Derived.Laws.MathBits
import Derived.Laws.ShiftsVarLaws
import Derived.WalkSmall
import Derived.Laws.ResultCell
import Derived.Lib.BitFns
import Derived.Laws.StructEq
import Derived.Deep.RegionHeld
import Derived.ArgAppend
import Derived.Deep.RegionLaw
import Derived.Deep.DeepAppendRoom
import Derived.Sort.WalkA
import Derived.Laws.Strings
import Derived.Deep.CutBlock
import Derived.Great.BuildSlice
import Derived.Laws.AppendOwnNone
import Derived.Laws.BytesString
import Derived.Lib.Overlaps
import Derived.Lib.AppendZerosOnto
import Derived.Laws.NewBlocks
import Derived.Laws.Externs
import Derived.Laws.IdiomCopy
import Derived.RangeFuncNested
import Derived.RangeFuncBound
import Derived.RangeFuncCalls
import Derived.RangeFuncLeaves
import Derived.Shelf.Abstract
import Derived.Shelf.RegionOpen
import Derived.OwnWalkIn
import Derived.TacticsInMore
import Derived.LoopNIn
import Derived.LoopIn
import Derived.Deep.CutRange
import Derived.Deep.OwnRows
import Derived.Lib.Walk
import Derived.Lib.SliceRun
import GoSem.Claim
import GoSem.ClaimJoined
import GoSem.ClaimMapViews
import Derived.JoinedTies
import Derived.KernelRfl
import Derived.Lib.LaidTab
import Derived.JoinedCond
import Derived.ShutString
import Derived.ChangeOld
import Derived.Below
import Derived.Carry
import Derived.ChangeSlices
import Derived.Deep.Slices
import Derived.Deep.DeepHandedRow
import Derived.RowKit
import Derived.ChangeShapes
import Derived.SizedLaws
import Derived.ChangeMaps5
import Derived.OrdersHeld
import Derived.Lib.AppendStr
import Derived.Lib.ConvBytes
import Derived.Deep.RegionHeld3
import Derived.Deep.MidRow
import Derived.Laws.BitsAllLaws
import Derived.Sort.Grow
import Derived.Shelf.SlSortCmp.WholeK
import Derived.Shelf.Lay
import Derived.Ground.SlsfProg
import Derived.Sort.LotA
import Derived.Sort.MapsRangeIn
import Derived.RangeFuncSeq
import Derived.RangeFuncKeeps
import Derived.Maps.AppendAt
import Derived.OwnWalk
import Derived.Test.YtpddokbjjhbfgaaGreatRows
import Derived.Test.YtpddokbjjhbfgaaGreatV8
import Derived.Test.YtpddokbjjhbfgaaGreatV18
import Derived.Test.YtpddokbjjhbfgaaGreatV21
namespace Go.Proofs.YtpddokbjjhbfgaaGreat.ds
open Go.ChangeShapes Go.WideShapes Go.ChangeAt Go.RowKit Go.Sort
set_option linter.unusedVariables false
set_option linter.unusedSimpArgs false

def iV (xs : List Int) : List Value := xs.map (Value.int .i64)
theorem iV_len (xs : List Int) : (iV xs).length = xs.length := by simp [iV]
theorem iV_one {xs : List Int} {u : Value} (h : u ∈ iV xs) : u.oneCell' = true := by
  simp [iV] at h
  obtain ⟨a, _, rfl⟩ := h
  rfl
/-- a list of numbers in a row of its own -/
structure Lk (w : World) (L cap : Nat) (xs : List Int) : Prop where
  own : w.ownsRow 0 3 1 (.slice (some ⟨L, 0, none⟩) xs.length cap) xs.length (iV xs)
theorem Lk.row {w : World} {L cap : Nat} {xs : List Int} (h : Lk w L cap xs) : ∃ cur, w.heap[L]? = some (.cells cur 3 (0, 0)) ∧ xs.length ≤ cap ∧ cap ≤ maxLen ∧ cur.size = cap ∧ cur.toList.take xs.length = iV xs := by
  obtain ⟨hx, ⟨hv, hz⟩ | ⟨g, cap', cur, hv, hb, hr, hc, hm, hs, ht⟩⟩ := h.own
  · cases hv
  · simp at hv
    obtain ⟨rfl, rfl⟩ := hv
    exact ⟨cur, hr, hc, hm, by simpa using hs, by simpa using ht⟩
theorem Lk.mk' {w : World} {L cap : Nat} {xs : List Int} {cur : Array Value} (hr : w.heap[L]? = some (.cells cur 3 (0, 0))) (hc : xs.length ≤ cap) (hm : cap ≤ maxLen) (hs : cur.size = cap) (ht : cur.toList.take xs.length = iV xs) : Lk w L cap xs :=
  ⟨by rw [iV_len]; omega, .inr ⟨L, cap, cur, rfl, Nat.zero_le _, hr, hc, hm, by simpa using hs, by simpa using ht⟩⟩
theorem Lk.lt {w : World} {L cap : Nat} {xs : List Int} (h : Lk w L cap xs) : L < w.heap.size := by
  obtain ⟨cur, hr, _⟩ := h.row
  exact lt_of_heap hr
theorem Lk.kept {w w' : World} {L cap : Nat} {xs : List Int} (h : Lk w L cap xs) (e : w'.heap[L]? = w.heap[L]?) : Lk w' L cap xs := by
  obtain ⟨cur, hr, hc, hm, hs, ht⟩ := h.row
  exact Lk.mk' (e.trans hr) hc hm hs ht
theorem Lk.cell {w : World} {L cap : Nat} {xs : List Int} (h : Lk w L cap xs) {i : Nat} (hi : i < xs.length) : w.cell? ⟨L, i, none⟩ = some (.int .i64 xs[i]) := by
  obtain ⟨cur, hr, hc, hm, hs, ht⟩ := h.row
  rw [cell_of_row _ _ _ _ _ _ hr]
  have h1 : (cur.toList.take xs.length)[i]? = some (.int .i64 xs[i]) := by rw [ht]; simp [iV, hi]
  rw [List.getElem?_take, if_pos hi] at h1
  simpa using h1
theorem Lk.pre {w : World} {L cap : Nat} {xs : List Int} (h : Lk w L cap xs) (k : Nat) (hk : k ≤ xs.length) : Lk w L cap (xs.take k) := by
  obtain ⟨cur, hr, hc, hm, hs, ht⟩ := h.row
  have hl : (xs.take k).length = k := by simp; omega
  refine Lk.mk' hr (by omega) hm hs ?_
  rw [hl]
  have := congrArg (List.take k) ht
  rw [List.take_take, Nat.min_eq_left hk] at this
  rw [this]
  simp [iV, List.map_take]
theorem info3i : (Tryz.prog.info? 3).map (fun i => (i.zero, i.size, i.bytes)) = some (some (.int .i64 0), 1, 8) := by kernel_rfl
theorem zero3 (w : World) : (zeroValue 3).run Tryz.prog w = .ok (.int .i64 0) w := by kernel_rfl
/-- append(s[:i], s[i+1:]...) in its own room -/
theorem Lk.del {w : World} {L cap : Nat} {xs : List Int} (h : Lk w L cap xs) (i : Nat) (hi : i < xs.length) (c : Nat) (ad : Addr) (had : 0 < xs.length - (i + 1) → ad = ⟨L, i + 1, none⟩) :
    ∃ w', (Builtin.append_ #[54, 54] 54 #[.slice (some ⟨L, 0, none⟩) i cap, .slice (some ad) (xs.length - (i + 1)) c]).run Tryz.prog w = .ok (.slice (some ⟨L, 0, none⟩) (xs.length - 1) cap) w' ∧ Lk w' L cap (xs.take i ++ xs.drop (i + 1)) ∧ Apart [L] w w' := by
  obtain ⟨i0, hif, hz0, hz1, hz2⟩ := info_parts info3i
  have hp := (h.pre i (by omega)).own
  have hl : (xs.take i).length = i := by simp; omega
  obtain ⟨cur, hr, hc, hm, hs, ht⟩ := h.row
  rw [hl] at hp
  have hdl : (iV (xs.drop (i + 1))).length = (xs.length - (i + 1)) * 1 := by rw [iV_len]; simp
  obtain ⟨w', hrun, r1, r2⟩ := run_append_own_spare (P := Tryz.prog) w 0 54 54 3 i0 1 Tryz.underlying54 hif hz1 L i cap (iV (xs.take i)) hp ad (xs.length - (i + 1)) c (iV (xs.drop (i + 1))) hdl
    (fun j u hj => by
      have hjl : i + 1 + j < xs.length := by have := (List.getElem?_eq_some_iff.1 hj).1; rw [iV_len] at this; simp at this; omega
      rw [had (by omega), Addr.add_lit, h.cell hjl]
      simp [iV, List.getElem?_drop] at hj
      rw [List.getElem?_eq_getElem hjl] at hj
      simpa using hj) (fun u hu => iV_one hu) (by omega)
  have e1 : i + (xs.length - (i + 1)) = xs.length - 1 := by omega
  rw [e1] at hrun r1
  have e2 : (xs.take i ++ xs.drop (i + 1)).length = xs.length - 1 := by simp; omega
  refine ⟨w', hrun, ⟨?_⟩, by simpa [Value.ownBlock] using ap_grown r2⟩
  rw [e2]
  have e3 : iV (xs.take i ++ xs.drop (i + 1)) = iV (xs.take i) ++ iV (xs.drop (i + 1)) := by simp [iV]
  rw [e3]
  exact r1
/-- clear of the one cell behind -/
theorem Lk.clear {w : World} {L cap : Nat} {xs : List Int} (h : Lk w L cap xs) (hc : xs.length < cap) (c : Nat) (ty : TypeId) :
    ∃ w', (Builtin.clear_ #[54] ty #[.slice (some ⟨L, xs.length, none⟩) 1 c]).run Tryz.prog w = .ok (.tuple #[]) w' ∧ Lk w' L cap xs ∧ Apart [L] w w' := by
  obtain ⟨cur, hr, hle, hm, hs, ht⟩ := h.row
  have hst := run_storeCells_at (P := Tryz.prog) L xs.length 3 [.int .i64 0] 0 cur w hr (by simp; omega) (by simp; rfl)
  refine ⟨w.setRow L (cur.toList.take (xs.length + 0) ++ [Value.int .i64 0] ++ cur.toList.drop (xs.length + 0 + [Value.int .i64 0].length)).toArray, ?_, ?_, ⟨rfl, rfl, rfl, by simp, fun k _ hk => setRow_other w L k _ (fun e => hk (by simp [e]))⟩⟩
  · simp [Builtin.clear_, run_underlying Tryz.underlying54, zero3]
    change ((Sem.run Tryz.prog (storeCells ⟨L, xs.length, none⟩ (Builtin.zeroCells #[Value.int .i64 0] 1).toList) w).andThen fun a w' => Result.ok (Value.tuple #[]) w') = _
    have : (Builtin.zeroCells #[Value.int .i64 0] 1).toList = [Value.int .i64 0] := by simp [Builtin.zeroCells]
    rw [this, hst]
    simp [Result.andThen]
  · refine Lk.mk' (setRow_heap w L _ _ 3 _ hr) hle hm (by simp; omega) ?_
    simp
    rw [List.take_append_of_le_length (by simp; omega), List.take_take, Nat.min_self, ht]
end Go.Proofs.YtpddokbjjhbfgaaGreat.ds
namespace Go.Proofs.YtpddokbjjhbfgaaGreat.ds
open Go.ChangeShapes Go.WideShapes Go.ChangeAt Go.RowKit Go.Sort
set_option linter.unusedVariables false
set_option linter.unusedSimpArgs false

/-- numbers that can be read -/
structure Ird (w : World) (p : Option Addr) (n : Nat) (xs : List Int) : Prop where
  len : xs.length = n
  rd : 0 < n → ∃ P o, p = some ⟨P, o, none⟩ ∧ P < w.heap.size ∧ ∀ i (h : i < xs.length), w.cell? ⟨P, o + i, none⟩ = some (.int .i64 xs[i])
theorem Ird.kept0 {w w' : World} {p : Option Addr} {n : Nat} {xs : List Int} (h : Ird w p n xs) (a : Apart [] w w') : Ird w' p n xs := ⟨h.len, fun h0 => by
  obtain ⟨P, o, e, hP, hc⟩ := h.rd h0
  exact ⟨P, o, e, Nat.lt_of_lt_of_le hP a.size, fun i hi => (a.cell (p := ⟨P, o + i, none⟩) hP (by simp)).trans (hc i hi)⟩⟩
theorem Lk.ird {w : World} {L cap : Nat} {xs : List Int} (h : Lk w L cap xs) : Ird w (some ⟨L, 0, none⟩) xs.length xs := ⟨rfl, fun _ => ⟨L, 0, rfl, h.lt, fun i hi => by rw [Nat.zero_add]; exact h.cell hi⟩⟩
/-- what slices.Index answers -/
def idxI (xs : List Int) (v : Int) : Int := if v ∈ xs then (xs.idxOf v : Nat) else -1
set_option maxHeartbeats 2000000 in
set_option maxRecDepth 100000 in
theorem index46 {w : World} {p : Option Addr} {n cap : Nat} {xs : List Int} (h : Ird w p n xs) (hn : n ≤ 1000000) (v : Int) : Calls Tryz.prog 46 #[.slice p n cap, .int .i64 v] w fun r w' => r = .returned (.int .i64 (idxI xs v)) ∧ w' = w := by
  have HR := hid h
  have hlen := h.len
  clear h
  go_enter Tryz.func46, Tryz.ntmps46
  go_wp2_with fail
  go_loopw [5, 8] (fun _ a wt => ∃ i : Nat, a = .int .i64 (i : Nat) ∧ i ≤ n ∧ wt = w ∧ Hid (∀ j (hj : j < xs.length), j < i → xs[j] ≠ v)) (fun _ a _ => n - (intOf a).toNat)
  case atStart => exact ⟨0, rfl, Nat.zero_le _, rfl, fun j _ hj => absurd hj (Nat.not_lt_zero _)⟩
  case round =>
    obtain ⟨i, rfl, hile, rfl, HI⟩ := hrel
    by_cases hlt : i < n
    · have hlti : ((i : Nat) : Int) < (n : Int) := by omega
      obtain ⟨P, o, hP, hPl, hc⟩ := HR.out.rd (by omega)
      have hil : i < xs.length := by omega
      have c1 := hc i hil
      have HIL := hid hil
      obtain ⟨x, Hx⟩ : ∃ x, Hid (x = xs[i]'hil) := ⟨xs[i]'hil, hid rfl⟩
      rw [← Hx.out] at c1
      subst hP
      clear hc
      by_cases hxv : v = x
      · have hbe : (v == x) = true := by simp [hxv]
        go_wp2_with fail
        go_ret
        refine ⟨?_, rfl⟩
        have hg : xs[i]'HIL.out = v := by rw [← Hx.out, hxv]
        have hidx : xs.idxOf v = i := by
          rw [List.idxOf, List.findIdx_eq HIL.out]
          refine ⟨by simpa using hg, fun j hj => ?_⟩
          have h2 := HI.out j (Nat.lt_trans hj HIL.out) hj
          simpa using h2
        unfold idxI
        rw [if_pos (by rw [← hg]; exact List.getElem_mem _), hidx]
        rfl
      · have hbe : (v == x) = false := by simp [hxv]
        go_wp2_with fail
        go_roundw
        case rel =>
          refine ⟨i + 1, by go_num, by omega, by trivial, fun j hj hji => ?_⟩
          by_cases e : j = i
          · subst e; rw [← Hx.out]; exact fun e => hxv e.symm
          · exact HI.out j hj (by omega)
        case measure => simp [intOf]; omega
    · have hlti : ¬ ((i : Nat) : Int) < (n : Int) := by omega
      go_wp2_with fail
      go_ret
      refine ⟨?_, rfl⟩
      have hnm : v ∉ xs := fun hm => by
        obtain ⟨j, hj, e⟩ := List.getElem_of_mem hm
        exact HI.out j hj (by omega) e
      unfold idxI
      rw [if_neg hnm]
      rfl
theorem idxI_pos (xs : List Int) (v : Int) : decide (idxI xs v ≥ 0) = decide (v ∈ xs) := by
  unfold idxI
  by_cases h : v ∈ xs
  · rw [if_pos h]; simp [h]
  · rw [if_neg h]; simp [h]
theorem contains45 {w : World} {p : Option Addr} {n cap : Nat} {xs : List Int} (h : Ird w p n xs) (hn : n ≤ 1000000) (v : Int) : Calls Tryz.prog 45 #[.slice p n cap, .int .i64 v] w fun r w' => r = .returned (.bool (decide (v ∈ xs))) ∧ w' = w := by
  have HQ := hid (index46 (cap := cap) h hn v)
  have HE := hid (idxI_pos xs v)
  clear h
  go_enter Tryz.func45, Tryz.ntmps45
  go_wp2_with fail
  refine HQ.out.mono ?_
  rintro _ w1 ⟨rfl, rfl⟩
  try dsimp only
  go_wp2_with fail
  go_ret
  exact ⟨by rw [← HE.out]; rfl, rfl⟩
/-- Next's closure -/
theorem next1_ok {w : World} {B : Nat} {p : Option Addr} {n cap : Nat} {xs : List Int} (hB : w.heap[B]? = some (.cells #[.slice p n cap] 54 (0, 0))) (h : Ird w p n xs) (hn : n ≤ 1000000) (v : Int) : Calls Tryz.prog 44 #[.int .i64 v, .pointer (some ⟨B, 0, none⟩)] w fun r w' => r = .returned (.bool (decide (v ∈ xs))) ∧ w' = w := by
  have HQ := hid (contains45 (cap := cap) h hn v)
  have z0 := crow hB 0 (.slice p n cap) rfl
  clear h hB
  go_enter Tryz.func44, Tryz.ntmps44
  go_wp2_with fail
  refine HQ.out.mono ?_
  rintro _ w1 ⟨rfl, rfl⟩
  try dsimp only
  go_wp2_with fail
  go_ret
  exact ⟨rfl, rfl⟩
set_option maxHeartbeats 2000000 in
set_option maxRecDepth 100000 in
theorem index43 {w : World} {B : Nat} {p : Option Addr} {n cap : Nat} {xs : List Int} (hB : w.heap[B]? = some (.cells #[.slice p n cap] 54 (0, 0))) (h : Ird w p n xs) (hn : n ≤ 1000000) {q : Option Addr} {m c : Nat} {ys : List Int} (hy : Ird w q m ys) (hm : m ≤ 1000000) (hex : ∃ y ∈ ys, y ∈ xs) :
    Calls Tryz.prog 43 #[.slice q m c, .func (.func 44) #[] #[.pointer (some ⟨B, 0, none⟩)]] w fun r w' => (∃ i : Nat, ∃ hi : i < ys.length, r = .returned (.int .i64 (i : Nat)) ∧ ys.find? (fun y => decide (y ∈ xs)) = some ys[i]) ∧ w' = w := by
  have HR := hid hy
  have hlen := hy.len
  have HC := hid (fun v => next1_ok hB h hn v)
  have HX := hid hex
  clear h hy hB hex
  go_enter Tryz.func43, Tryz.ntmps43
  go_wp2_with fail
  go_loopw [5, 8] (fun _ a wt => ∃ i : Nat, a = .int .i64 (i : Nat) ∧ i ≤ m ∧ wt = w ∧ Hid (∀ j (hj : j < ys.length), j < i → ys[j] ∉ xs)) (fun _ a _ => m - (intOf a).toNat)
  case atStart => exact ⟨0, rfl, Nat.zero_le _, rfl, fun j _ hj => absurd hj (Nat.not_lt_zero _)⟩
  case round =>
    obtain ⟨i, rfl, hile, rfl, HI⟩ := hrel
    by_cases hlt : i < m
    · have hlti : ((i : Nat) : Int) < (m : Int) := by omega
      obtain ⟨P, o, hP, hPl, hc⟩ := HR.out.rd (by omega)
      have hil : i < ys.length := by omega
      have c1 := hc i hil
      have HIL := hid hil
      obtain ⟨x, Hx⟩ : ∃ x, Hid (x = ys[i]'hil) := ⟨ys[i]'hil, hid rfl⟩
      rw [← Hx.out] at c1
      obtain ⟨v, HV⟩ : ∃ v : Bool, Hid (v = decide (x ∈ xs)) := ⟨_, rfl⟩
      have hcal := HC.out x
      rw [← HV.out] at hcal
      have HCA := hid hcal
      subst hP
      clear hc hcal
      go_wp2_with fail
      refine HCA.out.mono ?_
      rintro _ w2 ⟨rfl, hw2⟩
      rw [hw2]
      clear hw2 w2 HCA
      try dsimp only
      cases v with
      | true =>
        go_wp2_with fail
        go_ret
        refine ⟨⟨i, HIL.out, rfl, ?_⟩, rfl⟩
        rw [List.find?_eq_some_iff_getElem]
        refine ⟨by rw [← Hx.out, ← HV.out], i, HIL.out, rfl, fun j hj => ?_⟩
        have := HI.out j (by have := HIL.out; omega) hj
        simp [this]
      | false =>
        go_wp2_with fail
        go_roundw
        case rel =>
          refine ⟨i + 1, by go_num, by omega, by trivial, fun j hj hji => ?_⟩
          by_cases e : j = i
          · subst e; rw [← Hx.out]; have := HV.out; simpa using this.symm
          · exact HI.out j hj (by omega)
        case measure => simp [intOf]; omega
    · exfalso
      obtain ⟨y, hy, hyx⟩ := HX.out
      obtain ⟨j, hj, e⟩ := List.getElem_of_mem hy
      exact HI.out j hj (by omega) (by rw [e]; exact hyx)
set_option maxHeartbeats 4000000 in
set_option maxRecDepth 100000 in
theorem delete47 {w : World} {L cap : Nat} {xs : List Int} (h : Lk w L cap xs) (hn : xs.length ≤ 1000000) (i : Nat) (hi : i < xs.length) :
    Calls Tryz.prog 47 #[.slice (some ⟨L, 0, none⟩) xs.length cap, .int .i64 (i : Nat), .int .i64 ((i : Int) + 1)] w fun r w' => r = .returned (.slice (some ⟨L, 0, none⟩) (xs.length - 1) cap) ∧ Lk w' L cap (xs.take i ++ xs.drop (i + 1)) ∧ Apart [L] w w' := by
  obtain ⟨cur, -, hc, hm, -, -⟩ := h.row
  have HL := hid h
  obtain ⟨n, Hn⟩ : ∃ n, Hid (n = xs.length) := ⟨_, rfl⟩
  obtain ⟨m, Hm⟩ : ∃ m, Hid (m = n - 1) := ⟨_, rfl⟩
  have HIN : Hid (i < n) := by unfold Hid; rw [Hn.out]; exact hi
  obtain ⟨ys, Hys⟩ : ∃ ys, Hid (ys = xs.take i ++ xs.drop (i + 1)) := ⟨_, rfl⟩
  have HYL : Hid (ys.length = m) := by unfold Hid; rw [Hys.out, Hm.out, Hn.out]; simp; omega
  have HD : Hid (∀ (W : World) (c : Nat) (ad : Addr), (0 < n - (i + 1) → ad = ⟨L, i + 1, none⟩) → Lk W L cap xs → ∃ w', (Builtin.append_ #[54, 54] 54 #[.slice (some ⟨L, 0, none⟩) i cap, .slice (some ad) (n - (i + 1)) c]).run Tryz.prog W = .ok (.slice (some ⟨L, 0, none⟩) m cap) w' ∧ Lk w' L cap ys ∧ Apart [L] W w') := fun W c ad had hW => by rw [Hn.out] at had; rw [Hm.out, Hn.out, Hys.out]; exact hW.del i hi c ad had
  rw [← Hn.out, ← Hm.out, ← Hys.out]
  rw [← Hn.out] at hc
  have hmn : m + 1 = n := by rw [Hm.out]; have := HIN.out; omega
  have hin := HIN.out
  have hnl : n ≤ 1000000 := by rw [Hn.out]; exact hn
  clear h hi hn
  go_enter Tryz.func47, Tryz.ntmps47
  go_upto_region 5 with fail
  have hS0 : (fun _ : World => True) w.drew := trivial
  refine wp_region_held_drew (S := fun _ : World => True) (by kernel_rfl) hS0 (fun hHeld => ?_)
  have HLd := hid (HL.out.kept (w' := w.drew) rfl)
  have HAd : Hid (Apart [] w w.drew) := (Apart.refl [] w).drew
  generalize w.drew = wd at *
  refine tk 0 20 (.slice (some ⟨L, 0, none⟩) n cap) rfl ?_ ?_
  · intro W hSW; go_simp
  simp only [Act.put, List.setIfInBounds_toArray, List.set_cons_zero, List.set_cons_succ]
  refine tk 1 21 (.int .i64 (i : Nat)) rfl ?_ ?_
  · intro W hSW; go_simp
  simp only [Act.put, List.setIfInBounds_toArray, List.set_cons_zero, List.set_cons_succ]
  refine tk 2 22 (.slice (some ⟨L, 0, none⟩) i cap) rfl ?_ ?_
  · intro W hSW; go_simp; intro h; omega
  simp only [Act.put, List.setIfInBounds_toArray, List.set_cons_zero, List.set_cons_succ]
  refine tk 3 23 (.slice (some ⟨L, 0, none⟩) n cap) rfl ?_ ?_
  · intro W hSW; go_simp
  simp only [Act.put, List.setIfInBounds_toArray, List.set_cons_zero, List.set_cons_succ]
  refine tk 4 24 (.int .i64 ((i : Int) + 1)) rfl ?_ ?_
  · intro W hSW; go_simp
  simp only [Act.put, List.setIfInBounds_toArray, List.set_cons_zero, List.set_cons_succ]
  obtain ⟨ad, Had⟩ : ∃ ad : Addr, Hid (ad = if cap = i + 1 then ⟨L, 0, none⟩ else ⟨L, i + 1, none⟩) := ⟨_, rfl⟩
  refine tk 5 25 (.slice (some ad) (n - (i + 1)) (cap - (i + 1))) rfl ?_ ?_
  · intro W hSW; go_simp; rw [if_pos (by omega), Had.out]; split <;> rfl
  simp only [Act.put, List.setIfInBounds_toArray, List.set_cons_zero, List.set_cons_succ]
  obtain ⟨w1, hrun, hl1, ha1⟩ := HD.out wd (cap - (i + 1)) ad (fun h0 => by rw [Had.out, if_neg (by omega)]) HLd.out
  have HRUN := hid hrun
  clear hrun
  refine wpAnyH_ready (rs := [6]) (by kernel_rfl) (by simp) ?_
  refine AllReadyH.cons rfl (fun KK hKK => ?_) AllReadyH.nil
  refine step_app2 (o := ⟨some 26, _, _, _, _, _⟩) rfl (.tmp 22) (.tmp 25) 54 54 rfl _ _ rfl rfl _ _ HRUN.out ?_
  refine hKK.out _ _ trivial (fun hHeld => ?_)
  clear hKK KK
  try simp only [Act.put, List.setIfInBounds_toArray, List.set_cons_zero, List.set_cons_succ]
  refine tk 7 0 (.slice (some ⟨L, 0, none⟩) m cap) rfl ?_ ?_
  · intro W hSW; go_simp
  simp only [Act.put, List.setIfInBounds_toArray, List.set_cons_zero, List.set_cons_succ]
  refine wpAnyH_done (by kernel_rfl) ?_ _
  clear hHeld HRUN
  go_upto_region 6 with fail
  have HYc : Hid (ys.length < cap) := by unfold Hid; rw [HYL.out]; omega
  obtain ⟨w2, hrun2, hl2, ha2⟩ := hl1.clear HYc.out (cap - m) 0
  rw [HYL.out] at hrun2
  have HE : Hid (Lk w2 L cap ys ∧ Apart [L] w w2) := hid ⟨hl2, ((HAd.out.mono (by simp)).trans ha1).trans ha2⟩
  have hsub : n - m = 1 := by omega
  clear hl1 hl2 ha1 ha2
  go_wp2_with fail
  go_ret
  exact ⟨rfl, HE.out⟩
end Go.Proofs.YtpddokbjjhbfgaaGreat.ds
namespace Go.Proofs.YtpddokbjjhbfgaaGreat.ds
open Go.ChangeShapes Go.WideShapes Go.ChangeAt Go.RowKit Go.Sort
set_option linter.unusedVariables false
set_option linter.unusedSimpArgs false

/-- where a session's parts lie -/
structure Gs where
  S : Nat
  R : Nat
  L : Nat
  M : Nat
  cap : Nat
  g : ByteArray → Option (Nat × Int)
def Gs.has (G : Gs) (k : Nat) : Prop := k = G.S ∨ k = G.R ∨ k = G.L ∨ k = G.M ∨ ∃ (s : ByteArray) (x : Nat × Int), s.size ≤ maxLen ∧ G.g s = some x ∧ k = x.1
abbrev sesA (c : Cf) (R L n cap M : Nat) : Array Value := #[.int .i64 c.n, .int .i64 c.p, .int .i64 c.r, .int .i64 c.s, .int .i64 c.g, .int .i64 c.c, .int .i64 c.k, .int .i64 c.h, .int .i64 c.b, .pointer (some ⟨R, 0, none⟩), .slice (some ⟨L, 0, none⟩) n cap, .map (some M)]
/-- what was seen of a key -/
abbrev Sg := List Dt × Int
def HdOk (w : World) (M N : Nat) (x : Option (Nat × Int)) (y : Sg) : Prop := match x with
  | none => y = ([], 0)
  | some (h, k) => SetAt w h y.1 N ∧ y.2 = k ∧ h ≠ M
/-- a session in memory -/
structure Ss (w : World) (G : Gs) (c : Cf) (nn rr pp : Nat) (lk : List Int) (f : ByteArray → Sg) (N : Nat) : Prop where
  cn : c.n = nn
  cr : c.r = rr
  cp : c.p = pp
  p1 : 1 ≤ pp
  pn : pp ≤ nn
  blk : w.heap[G.S]? = some (.cells (sesA c G.R G.L nn G.cap G.M) 81 (0, 0))
  ring : rg.Rg w G.R nn rr
  rs : G.R ≠ G.S ∧ G.R ≠ G.L
  li : Lk w G.L G.cap lk
  ll : lk.length = nn
  lm : ∀ v : Int, v ∈ lk ↔ 0 ≤ v ∧ v < nn
  ld : lk.Nodup
  mp : MapK w G.M G.g N
  hd : ∀ s : ByteArray, s.size ≤ maxLen → HdOk w G.M N (G.g s) (f s) ∧ UpD (f s).1 ∧ (f s).1.length ≤ N
theorem Rg_same {w w' : World} {R n m : Nat} (h : rg.Rg w R n m) (e : w'.heap[R]? = w.heap[R]?) : rg.Rg w' R n m :=
  { h with c0 := (World.cell?_of_block (a := ⟨R, 0, none⟩) e).trans h.c0, c1 := (World.cell?_of_block (a := ⟨R, 1, none⟩) e).trans h.c1 }
theorem HdOk.mono {w : World} {M N N' : Nat} {x : Option (Nat × Int)} {y : Sg} (h : HdOk w M N x y) (hn : N ≤ N') : HdOk w M N' x y := by
  cases x with
  | none => exact h
  | some p => exact ⟨h.1.mono hn, h.2⟩
theorem MapK.mono {w : World} {M : Nat} {g : ByteArray → Option (Nat × Int)} {N N' : Nat} (h : MapK w M g N) (hn : N ≤ N') : MapK w M g N' := by
  obtain ⟨D, h1, h5⟩ := h
  exact ⟨D, h1.mono hn, h5⟩
theorem Ss.mono {w : World} {G : Gs} {c : Cf} {nn rr pp : Nat} {lk : List Int} {f : ByteArray → Sg} {N N' : Nat} (h : Ss w G c nn rr pp lk f N) (hn : N ≤ N') : Ss w G c nn rr pp lk f N' :=
  { h with mp := h.mp.mono hn, hd := fun s hs => ⟨(h.hd s hs).1.mono hn, (h.hd s hs).2.1, Nat.le_trans (h.hd s hs).2.2 hn⟩ }
theorem Ss.kept {w w' : World} {G : Gs} {c : Cf} {nn rr pp : Nat} {lk : List Int} {f : ByteArray → Sg} {N : Nat} (h : Ss w G c nn rr pp lk f N) (hk : ∀ k, k < w.heap.size → G.has k → w'.heap[k]? = w.heap[k]?) : Ss w' G c nn rr pp lk f N :=
  { h with
    blk := (hk _ (lt_of_heap h.blk) (.inl rfl)).trans h.blk
    ring := Rg_same h.ring (hk _ h.ring.lt (.inr (.inl rfl)))
    li := h.li.kept (hk _ h.li.lt (.inr (.inr (.inl rfl))))
    mp := h.mp.kept (hk _ h.mp.lt (.inr (.inr (.inr (.inl rfl)))))
    hd := fun s hs => ⟨by
      have := (h.hd s hs).1
      cases e : G.g s with
      | none => rw [e] at this; exact this
      | some p =>
        rw [e] at this
        exact ⟨this.1.kept (hk _ this.1.lt (.inr (.inr (.inr (.inr ⟨s, p, hs, e, rfl⟩))))), this.2⟩, (h.hd s hs).2⟩ }
theorem Ss.kept0 {w w' : World} {G : Gs} {c : Cf} {nn rr pp : Nat} {lk : List Int} {f : ByteArray → Sg} {N : Nat} (h : Ss w G c nn rr pp lk f N) (a : Apart [] w w') : Ss w' G c nn rr pp lk f N := h.kept (fun k hk _ => a.block k hk (by simp))
theorem Ss.hdAt {w : World} {G : Gs} {c : Cf} {nn rr pp : Nat} {lk : List Int} {f : ByteArray → Sg} {N : Nat} (h : Ss w G c nn rr pp lk f N) {s : ByteArray} (hs : s.size ≤ maxLen) : ∃ m : Option Nat, sgV (G.g s) = .agg #[.map m, .int .i64 (f s).2] ∧ HdAt w m (f s).1 N := by
  have := (h.hd s hs).1
  cases e : G.g s with
  | none =>
    rw [e] at this
    have e2 : f s = ([], 0) := this
    exact ⟨none, by rw [e2]; rfl, by rw [e2]; rfl⟩
  | some p =>
    rw [e] at this
    exact ⟨some p.1, by rw [this.2.1]; rfl, this.1⟩
theorem Ss.cells {w : World} {G : Gs} {c : Cf} {nn rr pp : Nat} {lk : List Int} {f : ByteArray → Sg} {N : Nat} (h : Ss w G c nn rr pp lk f N) : ∀ W, Apart [] w W → W.cell? ⟨G.S, 1, none⟩ = some (.int .i64 (pp : Nat)) ∧ W.cell? ⟨G.S, 9, none⟩ = some (.pointer (some ⟨G.R, 0, none⟩)) ∧ W.cell? ⟨G.S, 10, none⟩ = some (.slice (some ⟨G.L, 0, none⟩) nn G.cap) ∧ W.cell? ⟨G.S, 11, none⟩ = some (.map (some G.M)) := fun W a => by
  have b := keep0 a h.blk
  exact ⟨by rw [← h.cp]; exact crow b 1 _ rfl, crow b 9 _ rfl, crow b 10 _ rfl, crow b 11 _ rfl⟩
set_option maxRecDepth 100000 in
theorem token_ok {w : World} {G : Gs} {c : Cf} {nn rr pp : Nat} {lk : List Int} {f : ByteArray → Sg} {N : Nat} (h : Ss w G c nn rr pp lk f N) {s : ByteArray} (hs : s.size ≤ maxLen) :
    Calls Tryz.prog 18 #[.pointer (some ⟨G.S, 0, none⟩), .string s] w fun r w' => r = .returned (.int .i64 (f s).2) ∧ w' = w := by
  obtain ⟨m, hv, -⟩ := h.hdAt hs
  obtain ⟨-, -, -, z11⟩ := h.cells w (Apart.refl _ _)
  have hlook := h.mp.look hs
  rw [hv] at hlook
  have hfld : ∀ W, (Instr.field 85 (.agg #[.map m, .int .i64 (f s).2]) 1).run Tryz.prog W = .ok (.int .i64 (f s).2) W := fun W => by kernel_rfl
  clear h
  go_enter Tryz.func18, Tryz.ntmps18
  go_wp2_with fail
  go_ret
  exact ⟨rfl, rfl⟩
set_option maxHeartbeats 2000000 in
set_option maxRecDepth 100000 in
theorem heads_ok {w : World} {G : Gs} {c : Cf} {nn rr pp : Nat} {lk : List Int} {f : ByteArray → Sg} {N : Nat} (h : Ss w G c nn rr pp lk f N) (hN : N ≤ 4000000) {s : ByteArray} (hs : s.size ≤ maxLen) :
    Calls Tryz.prog 17 #[.pointer (some ⟨G.S, 0, none⟩), .string s] w fun r w' => SqS w (f s).1 r w' := by
  obtain ⟨m, hv, hat⟩ := h.hdAt hs
  obtain ⟨-, -, -, z11⟩ := h.cells w (Apart.refl _ _)
  have hlook := h.mp.look hs
  rw [hv] at hlook
  have hfld : ∀ W, (Instr.field 85 (.agg #[.map m, .int .i64 (f s).2]) 0).run Tryz.prog W = .ok (.map m) W := fun W => by kernel_rfl
  have HAT := hid hat
  have HU := hid (h.hd s hs).2
  clear h hat hv
  go_enter Tryz.func17, Tryz.ntmps17
  go_wp2_with fail
  refine (keys_ok w m).mono ?_
  rintro _ w1 ⟨rfl, hw1⟩
  have a1 : Apart [] w w1 := by rw [hw1]; exact (Apart.refl [] w).alloc _
  have hb1 : w1.heap[w.heap.size]? = some (.cells #[.map m] 83 (0, 0)) := by rw [hw1]; exact heap_alloc_new w _
  have HQ := hid (sortedFunc_ok (lt_of_heap hb1) (crow hb1 0 (.map m) rfl) (HAT.out.kept0 a1) HU.out.1 (Nat.le_trans HU.out.2 hN) hN)
  have HA1 := hid a1
  clear a1 hb1 hw1 z11 hlook hfld
  try dsimp only
  go_wp2_with fail
  refine HQ.out.mono ?_
  rintro _ w2 ⟨sl, rfl, hn⟩
  have HN2 : Hid (Nw w w2 34 2 sl (flD (f s).1)) := hid ⟨hn.own, fun k hk => Nat.le_trans HA1.out.size (hn.new k hk), HA1.out.trans hn.ap⟩
  clear hn HQ
  try dsimp only
  go_wp2_with fail
  go_ret
  exact ⟨sl, rfl, HN2.out⟩
end Go.Proofs.YtpddokbjjhbfgaaGreat.ds
namespace Go.Proofs.YtpddokbjjhbfgaaGreat.ds
open Go.ChangeShapes Go.WideShapes Go.ChangeAt Go.RowKit Go.Sort
set_option linter.unusedVariables false
set_option linter.unusedSimpArgs false
set_option maxRecDepth 100000 in
theorem member_ok {w : World} {p : Option Addr} {n cap : Nat} {xs : List Int} (h : Ird w p n xs) (hn : n ≤ 1000000) (v : Int) : Calls Tryz.prog 24 #[.slice p n cap, .int .i64 v] w fun r w' => r = .returned (.bool (decide (v ∈ xs))) ∧ w' = w := by
  have HR := hid h
  have hlen := h.len
  clear h
  obtain ⟨ob, Hob⟩ : ∃ b : Bool, Hid (b = decide (v ∈ xs)) := ⟨_, rfl⟩
  rw [← Hob.out]
  go_enter Tryz.func24, Tryz.ntmps24
  go_wp2_with fail
  go_loopw [5] (fun a wt => ∃ i : Nat, a = .int .i64 (i : Nat) ∧ i ≤ n ∧ wt = w ∧ Hid (∀ j (hj : j < xs.length), j < i → xs[j] ≠ v)) (fun a _ => n - (intOf a).toNat)
  case atStart => exact ⟨0, rfl, Nat.zero_le _, rfl, hid (fun j _ hj => by omega)⟩
  case round =>
    obtain ⟨i, rfl, hile, rfl, HI⟩ := hrel
    by_cases hlt : i < n
    · have hlti : ((i : Nat) : Int) < ((n : Nat) : Int) := by omega
      obtain ⟨P, o, rfl, hP, hc⟩ := HR.out.rd (by omega)
      have z := hc i (by omega)
      obtain ⟨x, Hx⟩ : ∃ x : Int, Hid (x = xs[i]'(by omega)) := ⟨_, hid rfl⟩
      rw [← Hx.out] at z
      clear hc
      by_cases he : x = v
      · have hob : ob = true := by rw [Hob.out]; exact decide_eq_true (by rw [← he, Hx.out]; exact List.getElem_mem _)
        go_wp2_with fail
        go_ret
        exact ⟨by first | rfl | (rw [hob]; rfl), rfl⟩
      · go_wp2_with fail
        go_roundw
        case rel => exact ⟨i + 1, by go_num, by omega, by first | rfl | trivial, hid (fun j hj hj2 => by
          by_cases hji : j = i
          · subst hji; rw [← Hx.out]; exact he
          · exact HI.out j hj (by omega))⟩
        case measure => simp [intOf]; omega
    · have hlti : ¬ ((i : Nat) : Int) < ((n : Nat) : Int) := by omega
      have hob : ob = false := by
        rw [Hob.out]
        refine decide_eq_false (fun hm => ?_)
        obtain ⟨j, hj, e⟩ := List.mem_iff_getElem.1 hm
        exact HI.out j hj (by omega) e
      go_wp2_with fail
      go_ret
      exact ⟨by first | rfl | (rw [hob]; rfl), rfl⟩
end Go.Proofs.YtpddokbjjhbfgaaGreat.ds
