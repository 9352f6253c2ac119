import Derived.Test.YtpddokbjjhbfgaaGreatChecked
import Derived.WalkKit
import Derived.ProofKit
import Derived.Maps.OwnSet
import Derived.Maps.RangeWalk
import Derived.DeepKeys4
import Derived.MapViews
import Derived.StringKeys
import Derived.Lib.TrailingZeros
import Derived.OpenShut
import Derived.Deep.QuietTactic
import Derived.BigQuiet
import Derived.BigRegion
import Derived.Laws.CopyOwn
import Derived.Laws.Bits64b
import Derived.Laws.MathBits
import Derived.Laws.ShiftsVarLaws
import Derived.WalkSmall
import Derived.Laws.ResultCell
import Derived.Lib.BitFns
import Derived.Laws.StructEq
import Derived.Deep.RegionHeld
import Derived.ArgAppend
import Derived.Deep.RegionLaw
import Derived.Deep.DeepAppendRoom
import Derived.Sort.WalkA
import Derived.Laws.Strings
import Derived.Deep.CutBlock
import Derived.Great.BuildSlice
import Derived.Laws.BytesString
import Derived.Laws.AppendOwnNone
import Derived.Lib.Overlaps
import Derived.Lib.AppendZerosOnto
import Derived.Laws.NewBlocks
import Derived.Laws.Externs
import Derived.Laws.IdiomCopy
import Derived.RangeFuncNested
import Derived.RangeFuncBound
import Derived.RangeFuncCalls
import Derived.RangeFuncLeaves
import Derived.Shelf.Abstract
import Derived.Shelf.RegionOpen
import Derived.OwnWalkIn
import Derived.TacticsInMore
import Derived.LoopNIn
import Derived.LoopIn
import Derived.Deep.CutRange
import Derived.Deep.OwnRows
import Derived.Lib.Walk
import Derived.Lib.SliceRun
import GoSem.Claim
import GoSem.ClaimJoined
import GoSem.ClaimMapViews
import Derived.JoinedTies
import Derived.KernelRfl
import Derived.Lib.LaidTab
import Derived.JoinedCond
import Derived.ShutString
import Derived.ChangeOld
import Derived.Below
import Derived.Carry
import Derived.ChangeSlices
import Derived.Deep.Slices
import Derived.Deep.DeepHandedRow
import Derived.RowKit
import Derived.ChangeShapes
import Derived.SizedLaws
import Derived.ChangeMaps5
import Derived.OrdersHeld
import Derived.Lib.AppendStr
import Derived.Lib.ConvBytes
import Derived.Deep.RegionHeld3
import Derived.Deep.MidRow
import Derived.Laws.BitsAllLaws
import Derived.Sort.Grow
import Derived.Shelf.SlSortCmp.WholeK
import Derived.Shelf.Lay
import Derived.Ground.SlsfProg
import Derived.Sort.LotA
import Derived.Sort.MapsRangeIn
import Derived.RangeFuncSeq
import Derived.RangeFuncKeeps
import Derived.Maps.AppendAt
import Derived.OwnWalk
import Derived.Test.YtpddokbjjhbfgaaGreatRows
import Derived.Test.YtpddokbjjhbfgaaGreatU16
namespace Go.Proofs.YtpddokbjjhbfgaaGreat.ds
open Go.ChangeShapes Go.WideShapes Go.ChangeAt Go.RowKit Go.Sort
set_option linter.unusedVariables false
set_option linter.unusedSimpArgs false

/-- numbers that can be read -/
structure Ird (w : World) (p : Option Addr) (n : Nat) (xs : List Int) : Prop where
  len : xs.length = n
  rd : 0 < n → ∃ P o, p = some ⟨P, o, none⟩ ∧ P < w.heap.size ∧ ∀ i (h : i < xs.length), w.cell? ⟨P, o + i, none⟩ = some (.int .i64 xs[i])
theorem Ird.kept0 {w w' : World} {p : Option Addr} {n : Nat} {xs : List Int} (h : Ird w p n xs) (a : Apart [] w w') : Ird w' p n xs := ⟨h.len, fun h0 => by
  obtain ⟨P, o, e, hP, hc⟩ := h.rd h0
  exact ⟨P, o, e, Nat.lt_of_lt_of_le hP a.size, fun i hi => (a.cell (p := ⟨P, o + i, none⟩) hP (by simp)).trans (hc i hi)⟩⟩
theorem Lk.ird {w : World} {L cap : Nat} {xs : List Int} (h : Lk w L cap xs) : Ird w (some ⟨L, 0, none⟩) xs.length xs := ⟨rfl, fun _ => ⟨L, 0, rfl, h.lt, fun i hi => by rw [Nat.zero_add]; exact h.cell hi⟩⟩
/-- what slices.Index answers -/
def idxI (xs : List Int) (v : Int) : Int := if v ∈ xs then (xs.idxOf v : Nat) else -1
set_option maxHeartbeats 2000000 in
set_option maxRecDepth 100000 in
theorem index46 {w : World} {p : Option Addr} {n cap : Nat} {xs : List Int} (h : Ird w p n xs) (hn : n ≤ 1000000) (v : Int) : Calls Tryz.prog 46 #[.slice p n cap, .int .i64 v] w fun r w' => r = .returned (.int .i64 (idxI xs v)) ∧ w' = w := by
  have HR := hid h
  have hlen := h.len
  clear h
  go_enter Tryz.func46, Tryz.ntmps46
  go_wp2_with fail
  go_loopw [5, 8] (fun _ a wt => ∃ i : Nat, a = .int .i64 (i : Nat) ∧ i ≤ n ∧ wt = w ∧ Hid (∀ j (hj : j < xs.length), j < i → xs[j] ≠ v)) (fun _ a _ => n - (intOf a).toNat)
  case atStart => exact ⟨0, rfl, Nat.zero_le _, rfl, fun j _ hj => absurd hj (Nat.not_lt_zero _)⟩
  case round =>
    obtain ⟨i, rfl, hile, rfl, HI⟩ := hrel
    by_cases hlt : i < n
    · have hlti : ((i : Nat) : Int) < (n : Int) := by omega
      obtain ⟨P, o, hP, hPl, hc⟩ := HR.out.rd (by omega)
      have hil : i < xs.length := by omega
      have c1 := hc i hil
      have HIL := hid hil
      obtain ⟨x, Hx⟩ : ∃ x, Hid (x = xs[i]'hil) := ⟨xs[i]'hil, hid rfl⟩
      rw [← Hx.out] at c1
      subst hP
      clear hc
      by_cases hxv : v = x
      · have hbe : (v == x) = true := by simp [hxv]
        go_wp2_with fail
        go_ret
        refine ⟨?_, rfl⟩
        have hg : xs[i]'HIL.out = v := by rw [← Hx.out, hxv]
        have hidx : xs.idxOf v = i := by
          rw [List.idxOf, List.findIdx_eq HIL.out]
          refine ⟨by simpa using hg, fun j hj => ?_⟩
          have h2 := HI.out j (Nat.lt_trans hj HIL.out) hj
          simpa using h2
        unfold idxI
        rw [if_pos (by rw [← hg]; exact List.getElem_mem _), hidx]
        rfl
      · have hbe : (v == x) = false := by simp [hxv]
        go_wp2_with fail
        go_roundw
        case rel =>
          refine ⟨i + 1, by go_num, by omega, by trivial, fun j hj hji => ?_⟩
          by_cases e : j = i
          · subst e; rw [← Hx.out]; exact fun e => hxv e.symm
          · exact HI.out j hj (by omega)
        case measure => simp [intOf]; omega
    · have hlti : ¬ ((i : Nat) : Int) < (n : Int) := by omega
      go_wp2_with fail
      go_ret
      refine ⟨?_, rfl⟩
      have hnm : v ∉ xs := fun hm => by
        obtain ⟨j, hj, e⟩ := List.getElem_of_mem hm
        exact HI.out j hj (by omega) e
      unfold idxI
      rw [if_neg hnm]
      rfl
theorem idxI_pos (xs : List Int) (v : Int) : decide (idxI xs v ≥ 0) = decide (v ∈ xs) := by
  unfold idxI
  by_cases h : v ∈ xs
  · rw [if_pos h]; simp [h]
  · rw [if_neg h]; simp [h]
theorem contains45 {w : World} {p : Option Addr} {n cap : Nat} {xs : List Int} (h : Ird w p n xs) (hn : n ≤ 1000000) (v : Int) : Calls Tryz.prog 45 #[.slice p n cap, .int .i64 v] w fun r w' => r = .returned (.bool (decide (v ∈ xs))) ∧ w' = w := by
  have HQ := hid (index46 (cap := cap) h hn v)
  have HE := hid (idxI_pos xs v)
  clear h
  go_enter Tryz.func45, Tryz.ntmps45
  go_wp2_with fail
  refine HQ.out.mono ?_
  rintro _ w1 ⟨rfl, rfl⟩
  try dsimp only
  go_wp2_with fail
  go_ret
  exact ⟨by rw [← HE.out]; rfl, rfl⟩
/-- Next's closure -/
theorem next1_ok {w : World} {B : Nat} {p : Option Addr} {n cap : Nat} {xs : List Int} (hB : w.heap[B]? = some (.cells #[.slice p n cap] 54 (0, 0))) (h : Ird w p n xs) (hn : n ≤ 1000000) (v : Int) : Calls Tryz.prog 44 #[.int .i64 v, .pointer (some ⟨B, 0, none⟩)] w fun r w' => r = .returned (.bool (decide (v ∈ xs))) ∧ w' = w := by
  have HQ := hid (contains45 (cap := cap) h hn v)
  have z0 := crow hB 0 (.slice p n cap) rfl
  clear h hB
  go_enter Tryz.func44, Tryz.ntmps44
  go_wp2_with fail
  refine HQ.out.mono ?_
  rintro _ w1 ⟨rfl, rfl⟩
  try dsimp only
  go_wp2_with fail
  go_ret
  exact ⟨rfl, rfl⟩
set_option maxHeartbeats 2000000 in
set_option maxRecDepth 100000 in
theorem index43 {w : World} {B : Nat} {p : Option Addr} {n cap : Nat} {xs : List Int} (hB : w.heap[B]? = some (.cells #[.slice p n cap] 54 (0, 0))) (h : Ird w p n xs) (hn : n ≤ 1000000) {q : Option Addr} {m c : Nat} {ys : List Int} (hy : Ird w q m ys) (hm : m ≤ 1000000) (hex : ∃ y ∈ ys, y ∈ xs) :
    Calls Tryz.prog 43 #[.slice q m c, .func (.func 44) #[] #[.pointer (some ⟨B, 0, none⟩)]] w fun r w' => (∃ i : Nat, ∃ hi : i < ys.length, r = .returned (.int .i64 (i : Nat)) ∧ ys.find? (fun y => decide (y ∈ xs)) = some ys[i]) ∧ w' = w := by
  have HR := hid hy
  have hlen := hy.len
  have HC := hid (fun v => next1_ok hB h hn v)
  have HX := hid hex
  clear h hy hB hex
  go_enter Tryz.func43, Tryz.ntmps43
  go_wp2_with fail
  go_loopw [5, 8] (fun _ a wt => ∃ i : Nat, a = .int .i64 (i : Nat) ∧ i ≤ m ∧ wt = w ∧ Hid (∀ j (hj : j < ys.length), j < i → ys[j] ∉ xs)) (fun _ a _ => m - (intOf a).toNat)
  case atStart => exact ⟨0, rfl, Nat.zero_le _, rfl, fun j _ hj => absurd hj (Nat.not_lt_zero _)⟩
  case round =>
    obtain ⟨i, rfl, hile, rfl, HI⟩ := hrel
    by_cases hlt : i < m
    · have hlti : ((i : Nat) : Int) < (m : Int) := by omega
      obtain ⟨P, o, hP, hPl, hc⟩ := HR.out.rd (by omega)
      have hil : i < ys.length := by omega
      have c1 := hc i hil
      have HIL := hid hil
      obtain ⟨x, Hx⟩ : ∃ x, Hid (x = ys[i]'hil) := ⟨ys[i]'hil, hid rfl⟩
      rw [← Hx.out] at c1
      obtain ⟨v, HV⟩ : ∃ v : Bool, Hid (v = decide (x ∈ xs)) := ⟨_, rfl⟩
      have hcal := HC.out x
      rw [← HV.out] at hcal
      have HCA := hid hcal
      subst hP
      clear hc hcal
      go_wp2_with fail
      refine HCA.out.mono ?_
      rintro _ w2 ⟨rfl, hw2⟩
      rw [hw2]
      clear hw2 w2 HCA
      try dsimp only
      cases v with
      | true =>
        go_wp2_with fail
        go_ret
        refine ⟨⟨i, HIL.out, rfl, ?_⟩, rfl⟩
        rw [List.find?_eq_some_iff_getElem]
        refine ⟨by rw [← Hx.out, ← HV.out], i, HIL.out, rfl, fun j hj => ?_⟩
        have := HI.out j (by have := HIL.out; omega) hj
        simp [this]
      | false =>
        go_wp2_with fail
        go_roundw
        case rel =>
          refine ⟨i + 1, by go_num, by omega, by trivial, fun j hj hji => ?_⟩
          by_cases e : j = i
          · subst e; rw [← Hx.out]; have := HV.out; simpa using this.symm
          · exact HI.out j hj (by omega)
        case measure => simp [intOf]; omega
    · exfalso
      obtain ⟨y, hy, hyx⟩ := HX.out
      obtain ⟨j, hj, e⟩ := List.getElem_of_mem hy
      exact HI.out j hj (by omega) (by rw [e]; exact hyx)
set_option maxHeartbeats 4000000 in
set_option maxRecDepth 100000 in
theorem delete47 {w : World} {L cap : Nat} {xs : List Int} (h : Lk w L cap xs) (hn : xs.length ≤ 1000000) (i : Nat) (hi : i < xs.length) :
    Calls Tryz.prog 47 #[.slice (some ⟨L, 0, none⟩) xs.length cap, .int .i64 (i : Nat), .int .i64 ((i : Int) + 1)] w fun r w' => r = .returned (.slice (some ⟨L, 0, none⟩) (xs.length - 1) cap) ∧ Lk w' L cap (xs.take i ++ xs.drop (i + 1)) ∧ Apart [L] w w' := by
  obtain ⟨cur, -, hc, hm, -, -⟩ := h.row
  have HL := hid h
  obtain ⟨n, Hn⟩ : ∃ n, Hid (n = xs.length) := ⟨_, rfl⟩
  obtain ⟨m, Hm⟩ : ∃ m, Hid (m = n - 1) := ⟨_, rfl⟩
  have HIN : Hid (i < n) := by unfold Hid; rw [Hn.out]; exact hi
  obtain ⟨ys, Hys⟩ : ∃ ys, Hid (ys = xs.take i ++ xs.drop (i + 1)) := ⟨_, rfl⟩
  have HYL : Hid (ys.length = m) := by unfold Hid; rw [Hys.out, Hm.out, Hn.out]; simp; omega
  have HD : Hid (∀ (W : World) (c : Nat) (ad : Addr), (0 < n - (i + 1) → ad = ⟨L, i + 1, none⟩) → Lk W L cap xs → ∃ w', (Builtin.append_ #[54, 54] 54 #[.slice (some ⟨L, 0, none⟩) i cap, .slice (some ad) (n - (i + 1)) c]).run Tryz.prog W = .ok (.slice (some ⟨L, 0, none⟩) m cap) w' ∧ Lk w' L cap ys ∧ Apart [L] W w') := fun W c ad had hW => by rw [Hn.out] at had; rw [Hm.out, Hn.out, Hys.out]; exact hW.del i hi c ad had
  rw [← Hn.out, ← Hm.out, ← Hys.out]
  rw [← Hn.out] at hc
  have hmn : m + 1 = n := by rw [Hm.out]; have := HIN.out; omega
  have hin := HIN.out
  have hnl : n ≤ 1000000 := by rw [Hn.out]; exact hn
  clear h hi hn
  go_enter Tryz.func47, Tryz.ntmps47
  go_upto_region 5 with fail
  have hS0 : (fun _ : World => True) w.drew := trivial
  refine wp_region_held_drew (S := fun _ : World => True) (by kernel_rfl) hS0 (fun hHeld => ?_)
  have HLd := hid (HL.out.kept (w' := w.drew) rfl)
  have HAd : Hid (Apart [] w w.drew) := (Apart.refl [] w).drew
  generalize w.drew = wd at *
  refine tk 0 20 (.slice (some ⟨L, 0, none⟩) n cap) rfl ?_ ?_
  · intro W hSW; go_simp
  simp only [Act.put, List.setIfInBounds_toArray, List.set_cons_zero, List.set_cons_succ]
  refine tk 1 21 (.int .i64 (i : Nat)) rfl ?_ ?_
  · intro W hSW; go_simp
  simp only [Act.put, List.setIfInBounds_toArray, List.set_cons_zero, List.set_cons_succ]
  refine tk 2 22 (.slice (some ⟨L, 0, none⟩) i cap) rfl ?_ ?_
  · intro W hSW; go_simp; intro h; omega
  simp only [Act.put, List.setIfInBounds_toArray, List.set_cons_zero, List.set_cons_succ]
  refine tk 3 23 (.slice (some ⟨L, 0, none⟩) n cap) rfl ?_ ?_
  · intro W hSW; go_simp
  simp only [Act.put, List.setIfInBounds_toArray, List.set_cons_zero, List.set_cons_succ]
  refine tk 4 24 (.int .i64 ((i : Int) + 1)) rfl ?_ ?_
  · intro W hSW; go_simp
  simp only [Act.put, List.setIfInBounds_toArray, List.set_cons_zero, List.set_cons_succ]
  obtain ⟨ad, Had⟩ : ∃ ad : Addr, Hid (ad = if cap = i + 1 then ⟨L, 0, none⟩ else ⟨L, i + 1, none⟩) := ⟨_, rfl⟩
  refine tk 5 25 (.slice (some ad) (n - (i + 1)) (cap - (i + 1))) rfl ?_ ?_
  · intro W hSW; go_simp; rw [if_pos (by omega), Had.out]; split <;> rfl
  simp only [Act.put, List.setIfInBounds_toArray, List.set_cons_zero, List.set_cons_succ]
  obtain ⟨w1, hrun, hl1, ha1⟩ := HD.out wd (cap - (i + 1)) ad (fun h0 => by rw [Had.out, if_neg (by omega)]) HLd.out
  have HRUN := hid hrun
  clear hrun
  refine wpAnyH_ready (rs := [6]) (by kernel_rfl) (by simp) ?_
  refine AllReadyH.cons rfl (fun KK hKK => ?_) AllReadyH.nil
  refine step_app2 (o := ⟨some 26, _, _, _, _, _⟩) rfl (.tmp 22) (.tmp 25) 54 54 rfl _ _ rfl rfl _ _ HRUN.out ?_
  refine hKK.out _ _ trivial (fun hHeld => ?_)
  clear hKK KK
  try simp only [Act.put, List.setIfInBounds_toArray, List.set_cons_zero, List.set_cons_succ]
  refine tk 7 0 (.slice (some ⟨L, 0, none⟩) m cap) rfl ?_ ?_
  · intro W hSW; go_simp
  simp only [Act.put, List.setIfInBounds_toArray, List.set_cons_zero, List.set_cons_succ]
  refine wpAnyH_done (by kernel_rfl) ?_ _
  clear hHeld HRUN
  go_upto_region 6 with fail
  have HYc : Hid (ys.length < cap) := by unfold Hid; rw [HYL.out]; omega
  obtain ⟨w2, hrun2, hl2, ha2⟩ := hl1.clear HYc.out (cap - m) 0
  rw [HYL.out] at hrun2
  have HE : Hid (Lk w2 L cap ys ∧ Apart [L] w w2) := hid ⟨hl2, ((HAd.out.mono (by simp)).trans ha1).trans ha2⟩
  have hsub : n - m = 1 := by omega
  clear hl1 hl2 ha1 ha2
  go_wp2_with fail
  go_ret
  exact ⟨rfl, HE.out⟩
end Go.Proofs.YtpddokbjjhbfgaaGreat.ds
namespace Go.Proofs.YtpddokbjjhbfgaaGreat.ds
open Go.ChangeShapes Go.WideShapes Go.ChangeAt Go.RowKit Go.Sort
set_option linter.unusedVariables false
set_option linter.unusedSimpArgs false
theorem Ird.keptX {w w' : World} {p : Option Addr} {n : Nat} {xs : List Int} {X : List Nat} (h : Ird w p n xs) (a : Apart X w w') (hX : ∀ P o, p = some ⟨P, o, none⟩ → P < w.heap.size → P ∉ X) : Ird w' p n xs := ⟨h.len, fun h0 => by
  obtain ⟨P, o, e, hP, hc⟩ := h.rd h0
  exact ⟨P, o, e, Nat.lt_of_lt_of_le hP a.size, fun i hi => (a.cell (p := ⟨P, o + i, none⟩) hP (hX P o e hP)).trans (hc i hi)⟩⟩
/-- the numbers met so far -/
structure Mt (lo : Nat) (wt : World) (s : Sl) (l : List Int) : Prop where
  own : wt.ownsRow 0 3 1 s.v s.n (iV l)
  new : ∀ k, s.v.ownBlock = some k → lo ≤ k
def cutW (W : World) (lo : Nat) : World := { W with heap := W.heap.take lo }
theorem cutW_ap (W : World) {lo : Nat} (h : lo ≤ W.heap.size) : Apart [] (cutW W lo) W ∧ (cutW W lo).heap.size = lo := by
  have hs : (cutW W lo).heap.size = lo := by simp [cutW]; omega
  refine ⟨⟨rfl, rfl, rfl, by omega, fun k hk _ => ?_⟩, hs⟩
  have : k < lo := by omega
  show W.heap[k]? = (W.heap.extract 0 lo)[k]?
  rw [Array.getElem?_extract]
  simp
  omega
theorem Mt.nw {lo : Nat} {wt : World} {s : Sl} {l : List Int} (h : Mt lo wt s l) (hl : lo ≤ wt.heap.size) : Nw (cutW wt lo) wt 3 1 s (iV l) := ⟨h.own, fun k hk => by rw [(cutW_ap wt hl).2]; exact h.new k hk, (cutW_ap wt hl).1⟩
theorem Mt.len {lo : Nat} {wt : World} {s : Sl} {l : List Int} (h : Mt lo wt s l) : s.n = l.length := by have := h.own.1; rw [iV_len] at this; omega
theorem Mt.ird {lo : Nat} {wt : World} {s : Sl} {l : List Int} (h : Mt lo wt s l) : Ird wt s.p s.n l := ⟨h.len.symm, fun h0 => by
  obtain ⟨P, o, e, hP, hc⟩ := (Rd.own h.own) (by rw [iV_len, ← h.len]; exact h0)
  exact ⟨P, o, e, hP, fun i hi => hc i _ (by simp [iV, List.getElem?_eq_getElem hi])⟩⟩
theorem Mt.nil (lo : Nat) (w : World) : Mt lo w slz [] := ⟨World.ownsRow_nil _ _ _ _, by simp [Sl.v, slz, Value.ownBlock]⟩
theorem Mt.kept {lo : Nat} {wt wt' : World} {s : Sl} {l : List Int} {X : List Nat} (h : Mt lo wt s l) (a : Apart X wt wt') (hX : ∀ y ∈ X, y < lo) : Mt lo wt' s l := ⟨own_apart h.own a (fun k hk hm => by have := hX k hm; have := h.new k hk; omega), h.new⟩
end Go.Proofs.YtpddokbjjhbfgaaGreat.ds
