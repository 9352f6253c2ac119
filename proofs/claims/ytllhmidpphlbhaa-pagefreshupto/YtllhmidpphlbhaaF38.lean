import Derived.Deep.RegionHeld
import Derived.OrdersHeld
import Derived.WalkKit
import Derived.ProofKit
import Derived.Lib.TrailingZeros
import Derived.Test.YtllhmidpphlbhaaChecked
import Derived.OpenShut
import Derived.Deep.QuietTactic
import Derived.BigQuiet
import Derived.BigRegion
import Derived.Laws.CopyOwn
import Derived.Laws.Bits64b
import Derived.Laws.MathBits
import Derived.Laws.ShiftsVarLaws
import Derived.WalkSmall
import Derived.Laws.ResultCell
import Derived.Lib.BitFns
import Derived.Laws.StructEq
import Derived.ArgAppend
import Derived.Deep.RegionLaw
import Derived.Deep.DeepAppendRoom
import Derived.Sort.WalkA
import Derived.Laws.Strings
import Derived.Deep.CutBlock
import Derived.Great.BuildSlice
import Derived.Laws.AppendOwnNone
import Derived.Lib.Overlaps
import Derived.Lib.AppendZerosOnto
import Derived.Laws.NewBlocks
import Derived.Laws.Externs
import Derived.Laws.IdiomCopy
import Derived.Laws.BytesString
import Derived.Deep.CutRange
import Derived.RangeFuncNested
import Derived.RangeFuncBound
import Derived.RangeFuncCalls
import Derived.RangeFuncLeaves
import Derived.Shelf.Abstract
import Derived.Shelf.RegionOpen
import Derived.OwnWalkIn
import Derived.TacticsInMore
import Derived.LoopNIn
import Derived.LoopIn
import GoSem.Claim
import GoSem.ClaimJoined
import GoSem.ClaimMapViews
import Derived.JoinedTies
import Derived.KernelRfl
import Derived.Deep.OwnRows
import Derived.Lib.LaidTab
import Derived.JoinedCond
import Derived.ShutString
import Derived.ChangeOld
import Derived.Below
import Derived.Carry
import Derived.ChangeSlices
import Derived.Deep.Slices
import Derived.Deep.DeepHandedRow
import Derived.RowKit
import Derived.ChangeShapes
import Derived.SizedLaws
import Derived.ChangeMaps5
import Derived.Lib.Walk
import Derived.Lib.SliceRun
import Derived.Lib.AppendStr
import Derived.Lib.ConvBytes
import Derived.Deep.RegionHeld3
import Derived.Deep.MidRow
import Derived.Laws.MakeOwn
import Derived.Lib.SlBytesConst
import Derived.Test.YtllhmidpphlbhaaRows
import Derived.Test.YtllhmidpphlbhaaF32
import Derived.Test.YtllhmidpphlbhaaF37
namespace Go.Proofs.Ytllhmidpphlbhaa.ds
open Go.ChangeShapes Go.WideShapes Go.ChangeAt Go.RowKit Go.Sort
set_option linter.unusedVariables false
set_option linter.unusedSimpArgs false

theorem cP_len {kd gn ow : Int} {cs : List (Int × List S)} {rs : List Wr} (h : cE kd gn ow cs rs = 0) : VPc (cP kd gn ow cs rs) ∧ (pad (encPc (cP kd gn ow cs rs))).length = 2048 := by
  have hv : VPc (cP kd gn ow cs rs) := by
    revert h
    unfold cE cP
    split
    · exact VPc_C
    · split
      · exact VPc_K
      · exact VPc_H
  exact ⟨hv, pad_len (by have := encPc_le hv; omega)⟩
set_option maxHeartbeats 4000000 in
set_option maxRecDepth 100000 in
theorem builds_ok (w : World) (kd gn ow : Int) (s t : Sl) (ks : List Ck) (cs : List (Int × List S)) (es : List E) (rs : List Wr) (h : RCs w s ks cs) (hx : ∀ j, j < s.n → (gC cs j).2.length ≤ 2000000) (hw : RWs w t es rs) : Calls Try.prog 15 #[.agg #[.int .i64 kd, .int .i64 gn, .int .i64 ow, .slice s.p s.n s.c, .slice t.p t.n t.c]] w fun r w' => r = .returned (.bool true) ∧ Apart [] w w' := by
  obtain ⟨A, HXA⟩ : ∃ A, Hid (A = w.heap.size) := ⟨_, rfl⟩
  obtain ⟨w1, hw1⟩ : ∃ V, V = w.alloc (.cells #[.int .i64 kd, .int .i64 gn, .int .i64 ow, .slice s.p s.n s.c, .slice t.p t.n t.c] 25) := ⟨_, rfl⟩
  have a1 : Apart [] w w1 := by rw [hw1]; exact (Apart.refl [] w).alloc _
  have hA1 : w1.heap[A]? = some (.cells #[.int .i64 kd, .int .i64 gn, .int .i64 ow, .slice s.p s.n s.c, .slice t.p t.n t.c] 25 (0, 0)) := by rw [hw1, HXA.out]; exact heap_alloc_new w _
  have z0 := crow hA1 0 _ rfl
  have z1 := crow hA1 1 _ rfl
  have z2 := crow hA1 2 _ rfl
  have z3 := crow hA1 3 _ rfl
  have z4 := crow hA1 4 _ rfl
  have HA := hid a1
  have HROW := hid hA1
  clear a1 hA1
  have HB := hid (built_ok w1 kd gn ow s t ks cs es rs (h.kept0 HA.out) hx (hw.kept0 HA.out))
  have HWN : Hid (∀ W, Apart [] w1 W → Calls Try.prog 39 #[.agg #[.int .i64 kd, .int .i64 gn, .int .i64 ow, .slice s.p s.n s.c, .slice t.p t.n t.c]] W fun q w' => WO W w' q (cE kd gn ow cs rs) (cP kd gn ow cs rs)) := fun W a => wanted_ok W kd gn ow s t ks cs es rs (h.kept0 (HA.out.trans a)) (hw.kept0 (HA.out.trans a))
  have HLEN : Hid (cE kd gn ow cs rs = 0 → (pad (encPc (cP kd gn ow cs rs))).length = 2048) := fun he => (cP_len he).2
  clear h hx hw
  generalize cE kd gn ow cs rs = er at *
  generalize cP kd gn ow cs rs = pc at *
  go_enter Try.func15, Try.ntmps15
  go_upto_region 1 with fail
  rw [← hw1, ← HXA.out]
  clear hw1
  go_wp2_with fail
  refine HB.out.mono ?_
  intro q w2 hco
  obtain ⟨a2, sp, rfl, hp0, hp1⟩ := hco
  have HA2 := hid a2
  have HP0 := hid hp0
  have HP1 := hid hp1
  have y0 := crow (keep0 a2 HROW.out) 0 _ rfl
  have y1 := crow (keep0 a2 HROW.out) 1 _ rfl
  have y2 := crow (keep0 a2 HROW.out) 2 _ rfl
  have y3 := crow (keep0 a2 HROW.out) 3 _ rfl
  have y4 := crow (keep0 a2 HROW.out) 4 _ rfl
  clear hp0 hp1 a2 z0 z1 z2 z3 z4 HB
  try dsimp only
  go_wp2_with fail
  refine (HWN.out w2 HA2.out).mono ?_
  intro q w3 hwo
  obtain ⟨a3, sq, rfl, hq0, hq1⟩ := hwo
  have HA3 := hid a3
  have HS := hid (pages_same (w0 := w2) (w := w3) (w' := w3) HP0.out (fun he => by obtain ⟨g, e1, _, e3⟩ := HP1.out he; exact ⟨g, e1, keep0 a3 e3⟩) HLEN.out hq0 hq1)
  clear a3 hq0 hq1 y0 y1 y2 y3 y4 HWN
  try dsimp only
  go_wp2_with fail
  refine (lnum_ok w3 er).mono ?_
  rintro _ wn ⟨rfl, rfl⟩
  try dsimp only
  go_wp2_with fail
  refine HS.out.mono ?_
  rintro _ wm ⟨rfl, rfl⟩
  try dsimp only
  go_wp2_with fail
  go_ret
  exact ⟨rfl, HA.out.trans (HA2.out.trans HA3.out)⟩
/-- yes or no -/
structure AnyB (w : World) (r : Ending) (w' : World) : Prop where
  ex : ∃ b : Bool, r = .returned (.bool b)
  a : Apart [] w w'
set_option maxHeartbeats 8000000 in
set_option maxRecDepth 100000 in
/-- whether a content is small: either answer -/
theorem fits_ok (w : World) (kd gn ow : Int) (s t : Sl) (ks : List Ck) (cs : List (Int × List S)) (es : List E) (rs : List Wr) (h : RCs w s ks cs) (hx : ∀ j, j < s.n → (gC cs j).2.length ≤ 2000000) (hw : RWs w t es rs) (hk : ∀ j, j < t.n → (gR rs j).k.size ≤ 2000000) : Calls Try.prog 13 #[.agg #[.int .i64 kd, .int .i64 gn, .int .i64 ow, .slice s.p s.n s.c, .slice t.p t.n t.c]] w fun r w' => AnyB w r w' := by
  obtain ⟨A, HXA⟩ : ∃ A, Hid (A = w.heap.size) := ⟨_, rfl⟩
  obtain ⟨w1, hw1⟩ : ∃ V, V = w.alloc (.cells #[.int .i64 kd, .int .i64 gn, .int .i64 ow, .slice s.p s.n s.c, .slice t.p t.n t.c] 25) := ⟨_, rfl⟩
  have a1 : Apart [] w w1 := by rw [hw1]; exact (Apart.refl [] w).alloc _
  have hA1 : w1.heap[A]? = some (.cells #[.int .i64 kd, .int .i64 gn, .int .i64 ow, .slice s.p s.n s.c, .slice t.p t.n t.c] 25 (0, 0)) := by rw [hw1, HXA.out]; exact heap_alloc_new w _
  have z0 := crow hA1 0 _ rfl
  have z1 := crow hA1 1 _ rfl
  have z2 := crow hA1 2 _ rfl
  have z3 := crow hA1 3 _ rfl
  have z4 := crow hA1 4 _ rfl
  have HA := hid a1
  have HROW := hid hA1
  clear a1 hA1
  have HC := hid h
  have HX := hid hx
  have HW := hid hw
  have HK := hid hk
  have hl1 := h.lim
  have hl2 := hw.lim
  clear h hx hw hk
  have hwr : IntKind.i64.wrap ((s.n : Int) + (t.n : Int)) = ((s.n + t.n : Nat) : Int) := by rw [IntKind.wrap_i64]; omega
  go_enter Try.func13, Try.ntmps13
  go_upto_region 1 with fail
  rw [← hw1, ← HXA.out]
  clear hw1
  go_wp2_with fail
  clear z0 z1 z2 z3 z4
  go_loopw [3, 4] (fun a b wt => ∃ (i n : Nat), a = .int .i64 (n : Nat) ∧ b = .int .i64 (i : Nat) ∧ i ≤ s.n ∧ n ≤ 4000000 + i * 2000000 ∧ Apart [] w1 wt) (fun _ b _ => s.n - (intOf b).toNat)
  case atStart => exact ⟨0, s.n + t.n, rfl, rfl, Nat.zero_le _, by omega, Apart.refl _ _⟩
  case round =>
    obtain ⟨i, n, rfl, rfl, hile, hnl, hap⟩ := hrel
    have HAP := hid hap
    have z3 := crow (keep0 hap HROW.out) 3 _ rfl
    clear hap
    by_cases hlt : i < s.n
    · have hlti : ((i : Nat) : Int) < (s.n : Int) := by omega
      obtain ⟨P, o, hP, hPl, c0, c1⟩ := (HC.out.kept0 (HA.out.trans HAP.out)).cells i hlt
      have hln : (gK ks i).s.n ≤ 2000000 := by have h1 := HX.out i hlt; have h2 := (HC.out.each i hlt).2.1.len; omega
      rw [hP] at z3
      clear hP hPl
      generalize gK ks i = ki at *
      have hw2 : IntKind.i64.wrap ((n : Int) + (ki.s.n : Int)) = ((n + ki.s.n : Nat) : Int) := by rw [IntKind.wrap_i64]; omega
      go_wp2_with fail
      go_roundw
      case rel => exact ⟨i + 1, n + ki.s.n, rfl, by go_num, by omega, by omega, HAP.out⟩
      case measure => simp [intOf]; omega
    · have hlti : ¬ ((i : Nat) : Int) < (s.n : Int) := by omega
      go_wp2_with fail
      clear z3
      go_loopw [3, 5] (fun a b wt => ∃ (i n : Nat), a = .int .i64 (n : Nat) ∧ b = .int .i64 (i : Nat) ∧ i ≤ t.n ∧ n ≤ 4000004000000 + i * 6000000 ∧ Apart [] w1 wt) (fun _ b _ => t.n - (intOf b).toNat)
      case atStart => exact ⟨0, n, rfl, rfl, Nat.zero_le _, by omega, HAP.out⟩
      case round =>
        clear HAP
        obtain ⟨j, m, rfl, rfl, hjle, hml, hap⟩ := hrel
        have HAP := hid hap
        have z4 := crow (keep0 hap HROW.out) 4 _ rfl
        clear hap
        by_cases hjt : j < t.n
        · have hjti : ((j : Nat) : Int) < (t.n : Int) := by omega
          obtain ⟨P, o, hP, hPl, -⟩ := HW.out.cells j hjt
          have HCL : Hid (∀ W, Apart [] w1 W → W.cell? ⟨A, 4, none⟩ = some (.slice (some ⟨P, o, none⟩) t.n t.c) ∧ W.cell? ⟨P, o + j * 6 + 2, none⟩ = some (.string (gE es j).k) ∧ W.cell? ⟨P, o + j * 6 + 4, none⟩ = some (.slice (gE es j).v.p (gE es j).v.n (gE es j).v.c) ∧ W.cell? ⟨P, o + j * 6 + 5, none⟩ = some (.slice (gE es j).x.p (gE es j).x.n (gE es j).x.c)) := fun W hW => by
            obtain ⟨P', o', hP', _, c0, c1, c2, c3, c4, c5⟩ := (HW.out.kept0 (HA.out.trans hW)).cells j hjt
            rw [hP] at hP'
            simp at hP'
            obtain ⟨rfl, rfl⟩ := hP'
            exact ⟨by rw [← hP]; exact crow (keep0 hW HROW.out) 4 _ rfl, c2, c4, c5⟩
          have hv := (HW.out.each j hjt).vl
          have hxl := (HW.out.each j hjt).xl
          have hks : (gE es j).k.size ≤ 2000000 := by rw [(HW.out.each j hjt).k]; exact HK.out j hjt
          rw [hP] at z4
          clear hP hPl
          generalize gE es j = e0 at *
          have hq1 : IntKind.i64.wrap ((m : Int) + (e0.x.n : Int)) = ((m + e0.x.n : Nat) : Int) := by rw [IntKind.wrap_i64]; omega
          have hAd := HAP.out.drew
          go_upto_region 9 with fail
          refine wp_region_held_drew (S := fun W => Apart [] w1 W) (by kernel_rfl) hAd (fun hHeld => ?_)
          generalize wr.drew = wd at *
          refine tk 0 36 (.int .i64 (m : Nat)) rfl ?_ ?_
          · intro W hSW; go_simp
          simp only [Act.put, List.setIfInBounds_toArray, List.set_cons_zero, List.set_cons_succ]
          refine tk 1 37 (.pointer (some ⟨A, 4, none⟩)) rfl ?_ ?_
          · intro W hSW; go_simp
          simp only [Act.put, List.setIfInBounds_toArray, List.set_cons_zero, List.set_cons_succ]
          refine tk 2 38 (.slice (some ⟨P, o, none⟩) t.n t.c) rfl ?_ ?_
          · intro W hSW; obtain ⟨a4, b2, b4, b5⟩ := HCL.out W hSW; go_simp
          simp only [Act.put, List.setIfInBounds_toArray, List.set_cons_zero, List.set_cons_succ]
          refine tk 3 39 (.int .i64 (j : Nat)) rfl ?_ ?_
          · intro W hSW; go_simp
          simp only [Act.put, List.setIfInBounds_toArray, List.set_cons_zero, List.set_cons_succ]
          refine tk 4 40 (.pointer (some ⟨P, o + j * 6, none⟩)) rfl ?_ ?_
          · intro W hSW; go_simp
          simp only [Act.put, List.setIfInBounds_toArray, List.set_cons_zero, List.set_cons_succ]
          refine tk 5 41 (.pointer (some ⟨P, o + j * 6 + 5, none⟩)) rfl ?_ ?_
          · intro W hSW; go_simp
          simp only [Act.put, List.setIfInBounds_toArray, List.set_cons_zero, List.set_cons_succ]
          refine tk 6 42 (.slice e0.x.p e0.x.n e0.x.c) rfl ?_ ?_
          · intro W hSW; obtain ⟨a4, b2, b4, b5⟩ := HCL.out W hSW; go_simp
          simp only [Act.put, List.setIfInBounds_toArray, List.set_cons_zero, List.set_cons_succ]
          refine tk 7 43 (.int .i64 (e0.x.n : Nat)) rfl ?_ ?_
          · intro W hSW; go_simp
          simp only [Act.put, List.setIfInBounds_toArray, List.set_cons_zero, List.set_cons_succ]
          refine tk 8 44 (.int .i64 ((m + e0.x.n : Nat) : Int)) rfl ?_ ?_
          · intro W hSW; go_simp
          simp only [Act.put, List.setIfInBounds_toArray, List.set_cons_zero, List.set_cons_succ]
          refine tk 9 45 (.pointer (some ⟨A, 4, none⟩)) rfl ?_ ?_
          · intro W hSW; go_simp
          simp only [Act.put, List.setIfInBounds_toArray, List.set_cons_zero, List.set_cons_succ]
          refine tk 10 46 (.slice (some ⟨P, o, none⟩) t.n t.c) rfl ?_ ?_
          · intro W hSW; obtain ⟨a4, b2, b4, b5⟩ := HCL.out W hSW; go_simp
          simp only [Act.put, List.setIfInBounds_toArray, List.set_cons_zero, List.set_cons_succ]
          refine tk 11 47 (.int .i64 (j : Nat)) rfl ?_ ?_
          · intro W hSW; go_simp
          simp only [Act.put, List.setIfInBounds_toArray, List.set_cons_zero, List.set_cons_succ]
          refine tk 12 48 (.pointer (some ⟨P, o + j * 6, none⟩)) rfl ?_ ?_
          · intro W hSW; go_simp
          simp only [Act.put, List.setIfInBounds_toArray, List.set_cons_zero, List.set_cons_succ]
          refine tk 13 49 (.pointer (some ⟨P, o + j * 6 + 4, none⟩)) rfl ?_ ?_
          · intro W hSW; go_simp
          simp only [Act.put, List.setIfInBounds_toArray, List.set_cons_zero, List.set_cons_succ]
          refine tk 14 50 (.slice e0.v.p e0.v.n e0.v.c) rfl ?_ ?_
          · intro W hSW; obtain ⟨a4, b2, b4, b5⟩ := HCL.out W hSW; go_simp
          simp only [Act.put, List.setIfInBounds_toArray, List.set_cons_zero, List.set_cons_succ]
          refine tk 15 51 (.int .i64 (e0.v.n : Nat)) rfl ?_ ?_
          · intro W hSW; go_simp
          simp only [Act.put, List.setIfInBounds_toArray, List.set_cons_zero, List.set_cons_succ]
          refine tk 16 52 (.int .i64 ((e0.v.n / 64 : Nat) : Int)) rfl ?_ ?_
          · intro W hSW; go_simp; rw [IntKind.wrap_i64]; omega
          simp only [Act.put, List.setIfInBounds_toArray, List.set_cons_zero, List.set_cons_succ]
          refine tk 17 53 (.int .i64 ((m + e0.x.n + e0.v.n / 64 : Nat) : Int)) rfl ?_ ?_
          · intro W hSW; go_simp; rw [IntKind.wrap_i64]; omega
          simp only [Act.put, List.setIfInBounds_toArray, List.set_cons_zero, List.set_cons_succ]
          refine tk 18 54 (.pointer (some ⟨A, 4, none⟩)) rfl ?_ ?_
          · intro W hSW; go_simp
          simp only [Act.put, List.setIfInBounds_toArray, List.set_cons_zero, List.set_cons_succ]
          refine tk 19 55 (.slice (some ⟨P, o, none⟩) t.n t.c) rfl ?_ ?_
          · intro W hSW; obtain ⟨a4, b2, b4, b5⟩ := HCL.out W hSW; go_simp
          simp only [Act.put, List.setIfInBounds_toArray, List.set_cons_zero, List.set_cons_succ]
          refine tk 20 56 (.int .i64 (j : Nat)) rfl ?_ ?_
          · intro W hSW; go_simp
          simp only [Act.put, List.setIfInBounds_toArray, List.set_cons_zero, List.set_cons_succ]
          refine tk 21 57 (.pointer (some ⟨P, o + j * 6, none⟩)) rfl ?_ ?_
          · intro W hSW; go_simp
          simp only [Act.put, List.setIfInBounds_toArray, List.set_cons_zero, List.set_cons_succ]
          refine tk 22 58 (.pointer (some ⟨P, o + j * 6 + 2, none⟩)) rfl ?_ ?_
          · intro W hSW; go_simp
          simp only [Act.put, List.setIfInBounds_toArray, List.set_cons_zero, List.set_cons_succ]
          refine tk 23 59 (.string e0.k) rfl ?_ ?_
          · intro W hSW; obtain ⟨a4, b2, b4, b5⟩ := HCL.out W hSW; go_simp
          simp only [Act.put, List.setIfInBounds_toArray, List.set_cons_zero, List.set_cons_succ]
          refine tk 24 60 (.int .i64 (e0.k.size : Nat)) rfl ?_ ?_
          · intro W hSW; go_simp
          simp only [Act.put, List.setIfInBounds_toArray, List.set_cons_zero, List.set_cons_succ]
          refine tk 25 61 (.int .i64 ((e0.k.size / 64 : Nat) : Int)) rfl ?_ ?_
          · intro W hSW; go_simp; rw [IntKind.wrap_i64]; omega
          simp only [Act.put, List.setIfInBounds_toArray, List.set_cons_zero, List.set_cons_succ]
          refine tk 26 62 (.int .i64 ((m + e0.x.n + e0.v.n / 64 + e0.k.size / 64 : Nat) : Int)) rfl ?_ ?_
          · intro W hSW; go_simp; rw [IntKind.wrap_i64]; omega
          simp only [Act.put, List.setIfInBounds_toArray, List.set_cons_zero, List.set_cons_succ]
          refine tk 27 3 (.int .i64 ((m + e0.x.n + e0.v.n / 64 + e0.k.size / 64 : Nat) : Int)) rfl ?_ ?_
          · intro W hSW; go_simp
          simp only [Act.put, List.setIfInBounds_toArray, List.set_cons_zero, List.set_cons_succ]
          refine wpAnyH_done (by kernel_rfl) ?_ _
          have HSa := hid hHeld
          clear hHeld hAd
          go_wp2_with fail
          go_roundw
          case rel => exact ⟨j + 1, m + e0.x.n + e0.v.n / 64 + e0.k.size / 64, rfl, by go_num, by omega, by omega, HSa.out⟩
          case measure => simp [intOf]; omega
        · have hjti : ¬ ((j : Nat) : Int) < (t.n : Int) := by omega
          go_wp2_with fail
          go_ret
          exact ⟨⟨_, rfl⟩, HA.out.trans HAP.out⟩
end Go.Proofs.Ytllhmidpphlbhaa.ds
namespace Go.Proofs.Ytllhmidpphlbhaa.ds
open Go.ChangeShapes Go.WideShapes Go.ChangeAt Go.RowKit Go.Sort
set_option linter.unusedVariables false
set_option linter.unusedSimpArgs false

def rA : Wr := ⟨1, 300, ⟨#[107]⟩, false, [118], [⟨0, 2, 0⟩]⟩
def LA : List Nat := [2, 1, 107, 1, 1, 44, 1, 0, 0, 0, 1, 118, 1, 0, 2, 0, 0, 0, 0, 0, 0, 0, 0, 0, 0, 0]
theorem bskA : bsk ⟨#[107]⟩ = [107] := bsk_strB (l := [107]) (by decide)
theorem encA : encPc (pcK [rA]) = LA := by
  have e : pcK [rA] = .key (bsk ⟨#[107]⟩) [cwOf rA] := rfl
  rw [e, bskA]
  rfl
theorem okA : OkL 64 [⟨0, 2, 0⟩] := ⟨by simpa using ⟨by decide, by decide, by decide, by decide, by decide, by decide, by decide, by decide⟩, List.pairwise_singleton _ _⟩
theorem storA : Stor rA := ⟨by decide, by decide, by decide, by decide, okA, by decide⟩
theorem eKeyA : eKey [rA] = 0 := by
  show eKey1 rA [] = 0
  unfold eKey1
  rw [if_pos (by decide), if_pos (by decide)]
  show eKeys rA.k 0 0 [rA] = 0
  unfold eKeys
  rw [if_pos rfl, if_pos storA, if_pos (by decide)]
  rfl
theorem hdA : headR (pad LA) ⟨0, false⟩ = (⟨2, 0, 0, 1, 2, 1⟩, ⟨4, false⟩) := by decide
theorem padA8 : ∀ b ∈ pad LA, b < 256 := by
  intro b hb
  unfold pad at hb
  rcases List.mem_append.1 hb with hb | hb
  · have h1 : LA.all (fun b => decide (b < 256)) = true := by decide
    simpa using List.all_eq_true.1 h1 b hb
  · rw [List.mem_replicate] at hb; omega
def eA (B1 : Nat) : E := ⟨1, 300, ⟨#[107]⟩, false, ⟨some ⟨B1, 0, none⟩, 1, 1⟩, ⟨some ⟨B1 + 1, 0, none⟩, 1, 1⟩⟩
theorem rws_nil (w : World) : RWs w slz [] [] := ⟨fun h => by simp [flatE] at h, rfl, rfl, fun j hj => absurd hj (by simp [slz]), by simp [slz], fun _ => ⟨rfl, rfl⟩⟩
theorem rcs_nil (w : World) : RCs w slz [] [] := ⟨fun h => by simp [flatK] at h, rfl, rfl, fun j hj => absurd hj (by simp [slz]), by simp [slz], fun _ => ⟨rfl, rfl⟩⟩
set_option maxHeartbeats 8000000 in
set_option maxRecDepth 100000 in
theorem alive_ok (w : World) : Calls Try.prog 14 #[] w fun r w' => r = .returned (.bool true) ∧ Apart [] w w' := by
  obtain ⟨B1, HB1⟩ : ∃ B, Hid (B = w.heap.size) := ⟨_, rfl⟩
  obtain ⟨wa, hwa⟩ : ∃ V, V = w.alloc (.cells #[.int .u8 118] 5 (1, 2)) := ⟨_, rfl⟩
  obtain ⟨wb, hwb⟩ : ∃ V, V = wa.alloc (.cells #[.int .i64 0, .int .i64 2, .int .u64 0] 85) := ⟨_, rfl⟩
  obtain ⟨wc, hwc⟩ : ∃ V, V = wb.alloc (.cells #[.int .i64 1, .int .i64 300, .string ⟨#[107]⟩, .bool false, .slice (some ⟨B1, 0, none⟩) 1 1, .slice (some ⟨B1 + 1, 0, none⟩) 1 1] 50) := ⟨_, rfl⟩
  obtain ⟨B3, HB3⟩ : ∃ B, Hid (B = wc.heap.size) := ⟨_, rfl⟩
  obtain ⟨wd, hwd⟩ : ∃ V, V = wc.alloc (.cells #[.int .i64 1, .int .i64 300, .string ⟨#[107]⟩, .bool false, .slice (some ⟨B1, 0, none⟩) 1 1, .slice (some ⟨B1 + 1, 0, none⟩) 1 1] 50) := ⟨_, rfl⟩
  obtain ⟨C, HCC⟩ : ∃ B, Hid (B = wd.heap.size) := ⟨_, rfl⟩
  obtain ⟨we, hwe⟩ : ∃ V, V = wd.alloc (.cells #[.int .i64 2, .int .i64 0, .int .i64 0, .slice none 0 0, .slice (some ⟨B3, 0, none⟩) 1 1] 25) := ⟨_, rfl⟩
  have cv : Sem.run Try.prog (convert 28 28 (.slice (some ⟨w.heap.size, 0, none⟩) 1 1)) (w.alloc (.cells #[.int .u8 118] 5)) = .ok (.slice (some ⟨w.heap.size, 0, none⟩) 1 1) (w.alloc (.cells #[.int .u8 118] 5 (1, 2))) := Lib.run_convert_bytes_const w 28 5 #[.int .u8 118] 1 1 Try.underlying28 Try.underlying5
  have ab : Apart [] wa wb := by rw [hwb]; exact (Apart.refl [] wa).alloc _
  have ac : Apart [] wb wc := by rw [hwc]; exact (Apart.refl [] wb).alloc _
  have ad : Apart [] wc wd := by rw [hwd]; exact (Apart.refl [] wc).alloc _
  have ae : Apart [] wd we := by rw [hwe]; exact (Apart.refl [] wd).alloc _
  have a0 : Apart [] w wa := by rw [hwa]; exact (Apart.refl [] w).alloc _
  have sa : wa.heap.size = B1 + 1 := by rw [hwa, HB1.out]; exact Array.size_push _
  have sb : wb.heap.size = B1 + 1 + 1 := by rw [hwb]; exact (Array.size_push _).trans (by rw [sa])
  have sd : wd.heap.size = B3 + 1 := by rw [hwd, HB3.out]; exact Array.size_push _
  have h1 : wa.heap[B1]? = some (.cells #[.int .u8 118] 5 (1, 2)) := by rw [hwa, HB1.out]; exact heap_alloc_new w _
  have h2 : wb.heap[B1 + 1]? = some (.cells #[.int .i64 0, .int .i64 2, .int .u64 0] 85 (0, 0)) := by have := heap_alloc_new wa (.cells #[.int .i64 0, .int .i64 2, .int .u64 0] 85); rw [sa, ← hwb] at this; exact this
  have h3 : wc.heap[B1 + 1 + 1]? = some (.cells #[.int .i64 1, .int .i64 300, .string ⟨#[107]⟩, .bool false, .slice (some ⟨B1, 0, none⟩) 1 1, .slice (some ⟨B1 + 1, 0, none⟩) 1 1] 50 (0, 0)) := by have := heap_alloc_new wb (.cells #[.int .i64 1, .int .i64 300, .string ⟨#[107]⟩, .bool false, .slice (some ⟨B1, 0, none⟩) 1 1, .slice (some ⟨B1 + 1, 0, none⟩) 1 1] 50); rw [sb, ← hwc] at this; exact this
  have h4 : wd.heap[B3]? = some (.cells #[.int .i64 1, .int .i64 300, .string ⟨#[107]⟩, .bool false, .slice (some ⟨B1, 0, none⟩) 1 1, .slice (some ⟨B1 + 1, 0, none⟩) 1 1] 50 (0, 0)) := by rw [hwd, HB3.out]; exact heap_alloc_new wc _
  have h5 : we.heap[B3 + 1]? = some (.cells #[.int .i64 2, .int .i64 0, .int .i64 0, .slice none 0 0, .slice (some ⟨B3, 0, none⟩) 1 1] 25 (0, 0)) := by have := heap_alloc_new wd (.cells #[.int .i64 2, .int .i64 0, .int .i64 0, .slice none 0 0, .slice (some ⟨B3, 0, none⟩) 1 1] 25); rw [sd, ← hwe] at this; exact this
  have hrd : Reads wc (eA B1) rA := by
    refine ⟨rfl, rfl, rfl, rfl, ?_, rfl, by simp [eA], by decide, ?_, by simp [eA], fun h => by simp [eA] at h, fun h => by simp [eA] at h⟩
    · intro _
      refine ⟨B1, 0, rfl, Nat.lt_of_lt_of_le (lt_of_heap h1) (ab.trans ac).size, fun j u hj => ?_⟩
      have h1c := ((ab.trans ac).block B1 (lt_of_heap h1) (by simp)).trans h1
      rw [Nat.zero_add, cell_of_row _ _ _ _ _ _ h1c]
      simpa [rA, byts] using hj
    · refine ⟨?_, rfl, by simp [eA], by intro x hx; simp [rA] at hx; subst hx; decide⟩
      intro _
      have h2c := keep0 ac h2
      refine ⟨B1 + 1, 0, rfl, lt_of_heap h2c, fun i hi => ?_⟩
      have hi0 : i = 0 := by simp [rA] at hi; exact hi
      subst hi0
      exact ⟨crow h2c 0 _ rfl, crow h2c 1 _ rfl, crow h2c 2 _ rfl⟩
  have HRD := hid hrd
  have HWS : Hid (∀ W G, Apart [] wc W → W.heap[G]? = some (.cells #[.int .i64 1, .int .i64 300, .string ⟨#[107]⟩, .bool false, .slice (some ⟨B1, 0, none⟩) 1 1, .slice (some ⟨B1 + 1, 0, none⟩) 1 1] 50 (0, 0)) → RWs W ⟨some ⟨G, 0, none⟩, 1, 1⟩ [eA B1] [rA]) := fun W G a hG => by
    refine ⟨?_, rfl, rfl, fun j hj => ?_, by simp, fun h => by simp at h⟩
    · intro _
      refine ⟨G, 0, rfl, lt_of_heap hG, fun j u hj => ?_⟩
      rw [Nat.zero_add, cell_of_row _ _ _ _ _ _ hG]
      simpa [flatE, E.cs, eA, Sl.v] using hj
    · have hj0 : j = 0 := by simp at hj; omega
      subst hj0
      exact hrd.kept0 a
  have HCS : Hid (∀ W G, Apart [] wc W → W.heap[G]? = some (.cells #[.int .i64 2, .slice (some ⟨B1 + 1, 0, none⟩) 1 1] 61 (0, 0)) → RCs W ⟨some ⟨G, 0, none⟩, 1, 1⟩ [⟨2, ⟨some ⟨B1 + 1, 0, none⟩, 1, 1⟩⟩] [(2, [⟨0, 2, 0⟩])]) := fun W G a hG => by
    refine ⟨?_, rfl, rfl, fun j hj => ?_, by simp, fun h => by simp at h⟩
    · intro _
      refine ⟨G, 0, rfl, lt_of_heap hG, fun j u hj => ?_⟩
      rw [Nat.zero_add, cell_of_row _ _ _ _ _ _ hG]
      simpa [flatK, Ck.cs] using hj
    · have hj0 : j = 0 := by simp at hj; omega
      subst hj0
      exact ⟨rfl, (hrd.kept0 a).x, fun h => by simp [gK] at h⟩
  obtain ⟨y0, y1, y2, y3, y4, y5⟩ := rowv6 h3
  have HY := hid h3
  have HC5 := hid h5
  have HAce := hid (ad.trans ae)
  have HA0c := hid (a0.trans (ab.trans ac))
  have HWe := hid (HWS.out we B3 (ad.trans ae) (keep0 ae h4))
  clear h1 h2 h3 h4 h5 hrd sa sb sd ab ac ad ae a0
  go_enter Try.func14, Try.ntmps14
  go_upto_region 2 with fail
  rw [← HB1.out, ← hwa, ← hwb, ← hwc]
  clear hwa hwb hwc cv
  go_upto_region 3 with fail
  rw [← HB3.out, ← hwd, ← hwe]
  clear hwd hwe y0 y1 y2 y3 y4 y5
  have z0 := crow HC5.out 0 _ rfl
  have z1 := crow HC5.out 1 _ rfl
  have z2 := crow HC5.out 2 _ rfl
  have z3 := crow HC5.out 3 _ rfl
  have z4 := crow HC5.out 4 _ rfl
  have hcE : cE 2 0 0 [] [rA] = 0 := eKeyA
  have hcP : cP 2 0 0 [] [rA] = pcK [rA] := rfl
  have HBL := hid (built_ok we 2 0 0 slz ⟨some ⟨B3, 0, none⟩, 1, 1⟩ [] [] [eA B1] [rA] (rcs_nil we) (fun j hj => absurd hj (by simp [slz])) HWe.out)
  rw [hcE, hcP] at HBL
  clear hcE hcP
  go_wp2_with fail
  refine HBL.out.mono ?_
  intro q wf hco
  obtain ⟨af, sp, rfl, -, hok⟩ := hco
  obtain ⟨g, rfl, hg1, hg2⟩ := hok rfl
  rw [encA] at hg2
  have HAf := hid af
  have HG2 := hid hg2
  clear af hok hg1 hg2 z0 z1 z2 z3 z4 HBL
  try dsimp only
  go_wp2_with fail
  refine (lnum_ok wf 0).mono ?_
  rintro _ wn ⟨rfl, hwn⟩
  rw [hwn]
  clear hwn wn
  try dsimp only
  have hCf := keep0 HAf.out HC5.out
  have z0 := crow hCf 0 _ rfl
  have z1 := crow hCf 1 _ rfl
  have z2 := crow hCf 2 _ rfl
  have z3 := crow hCf 3 _ rfl
  have z4 := crow hCf 4 _ rfl
  clear hCf
  go_wp2_with fail
  refine (builds_ok wf 2 0 0 slz ⟨some ⟨B3, 0, none⟩, 1, 1⟩ [] [] [eA B1] [rA] (rcs_nil wf) (fun j hj => absurd hj (by simp [slz])) (HWe.out.kept0 HAf.out)).mono ?_
  rintro _ wg ⟨rfl, ag⟩
  have HAg := hid (HAf.out.trans ag)
  have HG3 := hid (keep0 ag HG2.out)
  clear ag HG2 HAf z0 z1 z2 z3 z4
  try dsimp only
  have hYg := keep0 (HAce.out.trans HAg.out) HY.out
  obtain ⟨y0, y1, y2, y3, y4, y5⟩ := rowv6 hYg
  obtain ⟨D, HD⟩ : ∃ D, Hid (D = wg.heap.size) := ⟨_, rfl⟩
  obtain ⟨wh, hwh⟩ : ∃ V, V = wg.alloc (.cells #[.int .i64 2, .slice (some ⟨B1 + 1, 0, none⟩) 1 1] 61) := ⟨_, rfl⟩
  have ah : Apart [] wg wh := by rw [hwh]; exact (Apart.refl [] wg).alloc _
  have hDh : wh.heap[D]? = some (.cells #[.int .i64 2, .slice (some ⟨B1 + 1, 0, none⟩) 1 1] 61 (0, 0)) := by rw [hwh, HD.out]; exact heap_alloc_new wg _
  have HCSh := hid (HCS.out wh D (HAce.out.trans (HAg.out.trans ah)) hDh)
  have HYh := hid (keep0 ah hYg)
  have HGh := hid (keep0 ah HG3.out)
  have HAh := hid (HAg.out.trans ah)
  have HXB : Hid (∀ j, j < (⟨some ⟨D, 0, none⟩, 1, 1⟩ : Sl).n → (gC [(2, [(⟨0, 2, 0⟩ : S)])] j).2.length ≤ 2000000) := fun j hj => by
    have hj0 : j = 0 := by simp at hj; exact hj
    subst hj0
    decide
  clear ah hDh hYg HG3 HAg
  go_wp2_with fail
  rw [← hwh, ← HD.out]
  clear hwh y0 y1 y2 y3 y4 y5
  refine (builds_ok wh 1 5 0 ⟨some ⟨D, 0, none⟩, 1, 1⟩ slz [⟨2, ⟨some ⟨B1 + 1, 0, none⟩, 1, 1⟩⟩] [(2, [⟨0, 2, 0⟩])] [] [] HCSh.out HXB.out (rws_nil wh)).mono ?_
  rintro _ wi ⟨rfl, ai⟩
  have HAi := hid (HAh.out.trans ai)
  have HGi := hid (keep0 ai HGh.out)
  have hYi := keep0 ai HYh.out
  clear ai HAh HGh HYh HCSh
  try dsimp only
  obtain ⟨y0, y1, y2, y3, y4, y5⟩ := rowv6 hYi
  obtain ⟨F, HF⟩ : ∃ D, Hid (D = wi.heap.size) := ⟨_, rfl⟩
  obtain ⟨wj, hwj⟩ : ∃ V, V = wi.alloc (.cells #[.int .i64 1, .int .i64 300, .string ⟨#[107]⟩, .bool false, .slice (some ⟨B1, 0, none⟩) 1 1, .slice (some ⟨B1 + 1, 0, none⟩) 1 1] 50) := ⟨_, rfl⟩
  have aj : Apart [] wi wj := by rw [hwj]; exact (Apart.refl [] wi).alloc _
  have hFj : wj.heap[F]? = some (.cells #[.int .i64 1, .int .i64 300, .string ⟨#[107]⟩, .bool false, .slice (some ⟨B1, 0, none⟩) 1 1, .slice (some ⟨B1 + 1, 0, none⟩) 1 1] 50 (0, 0)) := by rw [hwj, HF.out]; exact heap_alloc_new wi _
  have HWj := hid (HWS.out wj F (HAce.out.trans (HAi.out.trans aj)) hFj)
  have HGj := hid (keep0 aj HGi.out)
  have HAj := hid (HAi.out.trans aj)
  clear aj hFj hYi HGi HAi
  go_wp2_with fail
  rw [← hwj, ← HF.out]
  clear hwj y0 y1 y2 y3 y4 y5
  refine (builds_ok wj 0 0 4 slz ⟨some ⟨F, 0, none⟩, 1, 1⟩ [] [] [eA B1] [rA] (rcs_nil wj) (fun j hj => absurd hj (by simp [slz])) HWj.out).mono ?_
  rintro _ wk ⟨rfl, ak⟩
  have HAk := hid (HAj.out.trans ak)
  have HGk := hid (keep0 ak HGj.out)
  clear ak HAj HGj HWj
  try dsimp only
  have hpb : Pb wk ⟨some ⟨g, 0, none⟩, 2048, 2048⟩ (pad LA) := ⟨page_rd HGk.out, pad_len (by decide), padA8, Nat.le_refl _, fun h => by simp at h, by simp⟩
  have hck : checkR (pad LA) = (2, 0, 0) := by have := (check_pad (VPc_K eKeyA)).1; rwa [encA] at this
  have HPB := hid hpb
  have HCK := hid hck
  clear hpb hck
  have h18 := check_ok HPB.out
  rw [HCK.out] at h18
  have H18 := hid h18
  clear h18
  go_wp2_with fail
  refine H18.out.mono ?_
  rintro _ wl ⟨rfl, al⟩
  have HAl := hid (HAk.out.trans al)
  have HPBl := hid (HPB.out.kept0 al)
  clear al H18 HAk HPB
  try dsimp only
  go_wp2_with fail
  refine (open_ok HPBl.out).mono ?_
  intro q wm hop
  obtain ⟨V, rfl, -, hvw⟩ := hop.ok (by rw [HCK.out])
  have HAm := hid (HAl.out.trans hop.a)
  have HPBm := hid (HPBl.out.kept0 hop.a)
  have HVm := hid hvw
  clear hop hvw HAl HPBl
  try dsimp only
  go_wp2_with fail
  refine (lnum_ok wm 0).mono ?_
  rintro _ wn ⟨rfl, hwn⟩
  rw [hwn]
  clear hwn wn
  try dsimp only
  go_wp2_with fail
  refine (lnum_ok wm 0).mono ?_
  rintro _ wn ⟨rfl, hwn⟩
  rw [hwn]
  clear hwn wn
  try dsimp only
  go_wp2_with fail
  have hln := vlen_ok HPBm.out rfl HVm.out
  rw [hdA] at hln
  refine hln.mono ?_
  clear hln
  rintro _ wo ⟨rfl, ao⟩
  have HAo := hid (HAm.out.trans ao)
  have HPBo := hid (HPBm.out.kept0 ao)
  have HVo : Hid (Vw wo V ⟨some ⟨g, 0, none⟩, 2048, 2048⟩) := keep0 ao HVm.out
  clear ao HAm HPBm HVm
  try dsimp only
  go_wp2_with fail
  obtain ⟨P, o, hpo, hky⟩ := vkey_ok HPBo.out rfl HVo.out
  simp at hpo
  obtain ⟨rfl, rfl⟩ := hpo
  rw [hdA] at hky
  refine hky.mono ?_
  clear hky
  rintro _ wp ⟨rfl, ap⟩
  have HAp := hid (HAo.out.trans ap)
  have HPBp := hid (HPBo.out.kept0 ap)
  clear ap HAo HPBo HVo
  try dsimp only
  have hkv : keyV g 0 ⟨2, 0, 0, 1, 2, 1⟩ = .slice (some ⟨g, 2, none⟩) 1 1 := rfl
  rw [hkv]
  clear hkv
  have hRd : Rd wp (some ⟨g, 2, none⟩) (byts [107]) := by
    intro _
    obtain ⟨P, o, e, hP, hc⟩ := HPBp.out.rd (by rw [byts_len, pad_len (by decide)]; decide)
    simp at e
    obtain ⟨rfl, rfl⟩ := e
    refine ⟨g, 2, rfl, hP, fun j u hj => ?_⟩
    have hj0 : j = 0 := by
      have : j < (byts [107]).length := by
        by_cases hq : j < (byts [107]).length
        · exact hq
        · rw [List.getElem?_eq_none (by omega)] at hj; cases hj
      rw [byts_len] at this
      simp at this
      exact this
    subst hj0
    have h2 := hc 2 u (by rw [← hj]; rfl)
    simpa using h2
  have c1 : Sem.run Try.prog (convert 28 9 (.slice (some ⟨g, 2, none⟩) 1 1)) wp = .ok (.string ⟨#[107]⟩) wp := conv_bytes (s := ⟨some ⟨g, 2, none⟩, 1, 1⟩) (bs := [107]) hRd rfl (fun h => by simp at h)
  clear hRd
  go_wp2_with fail
  go_ret
  exact ⟨rfl, HA0c.out.trans (HAce.out.trans HAp.out)⟩
end Go.Proofs.Ytllhmidpphlbhaa.ds
