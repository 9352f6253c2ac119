import Derived.Deep.RegionHeld
import Derived.OrdersHeld
import Derived.WalkKit
import Derived.ProofKit
import Derived.Lib.TrailingZeros
import Derived.Test.YtllhmidpphlbhaaChecked
import Derived.OpenShut
import Derived.Deep.QuietTactic
import Derived.BigQuiet
import Derived.BigRegion
import Derived.Laws.CopyOwn
import Derived.Laws.Bits64b
import Derived.Laws.MathBits
import Derived.Laws.ShiftsVarLaws
import Derived.WalkSmall
import Derived.Laws.ResultCell
import Derived.Lib.BitFns
import Derived.Laws.StructEq
import Derived.ArgAppend
import Derived.Deep.RegionLaw
import Derived.Deep.DeepAppendRoom
import Derived.Sort.WalkA
import Derived.Laws.Strings
import Derived.Deep.CutBlock
import Derived.Great.BuildSlice
import Derived.Laws.AppendOwnNone
import Derived.Lib.Overlaps
import Derived.Lib.AppendZerosOnto
import Derived.Laws.NewBlocks
import Derived.Laws.Externs
import Derived.Laws.IdiomCopy
import Derived.Laws.BytesString
import Derived.Deep.CutRange
import Derived.RangeFuncNested
import Derived.RangeFuncBound
import Derived.RangeFuncCalls
import Derived.RangeFuncLeaves
import Derived.Shelf.Abstract
import Derived.Shelf.RegionOpen
import Derived.OwnWalkIn
import Derived.TacticsInMore
import Derived.LoopNIn
import Derived.LoopIn
import GoSem.Claim
import GoSem.ClaimJoined
import GoSem.ClaimMapViews
import Derived.JoinedTies
import Derived.KernelRfl
import Derived.Deep.OwnRows
import Derived.Lib.LaidTab
import Derived.JoinedCond
import Derived.ShutString
import Derived.ChangeOld
import Derived.Below
import Derived.Carry
import Derived.ChangeSlices
import Derived.Deep.Slices
import Derived.Deep.DeepHandedRow
import Derived.RowKit
import Derived.ChangeShapes
import Derived.SizedLaws
import Derived.ChangeMaps5
import Derived.Lib.Walk
import Derived.Lib.SliceRun
import Derived.Lib.AppendStr
import Derived.Lib.ConvBytes
import Derived.Deep.RegionHeld3
import Derived.Deep.MidRow
import Derived.Laws.MakeOwn
import Derived.Lib.SlBytesConst
import Derived.Test.YtllhmidpphlbhaaRows
import Derived.Test.YtllhmidpphlbhaaF47
namespace Go.Proofs.Ytllhmidpphlbhaa.ds
open Go.ChangeShapes Go.WideShapes Go.ChangeAt Go.RowKit Go.Sort
set_option linter.unusedVariables false
set_option linter.unusedSimpArgs false

/-- an element of a row of slices -/
theorem row_at {w W : World} {tl : Nat} {r : Sl} {l : List Sl} (h : Nw w W tl 1 r (l.map Sl.v)) {i : Nat} (hi : i < l.length) : ∃ P o, r.p = some ⟨P, o, none⟩ ∧ P < W.heap.size ∧ W.cell? ⟨P, o + i, none⟩ = some (.slice (gS l i).p (gS l i).n (gS l i).c) := by
  obtain ⟨P, o, e, hP, hc⟩ := h.rd (by simp; omega)
  refine ⟨P, o, e, hP, hc i _ ?_⟩
  rw [List.getElem?_map, List.getElem?_eq_getElem hi]
  unfold gS
  rw [List.getD_eq_getElem?_getD, List.getElem?_eq_getElem hi]; rfl
theorem str_at {w W : World} {r : Sl} {l : List (List Nat)} (h : Nw w W 9 1 r (l.map fun l => .string (strB l))) {i : Nat} (hi : i < l.length) : ∃ P o, r.p = some ⟨P, o, none⟩ ∧ P < W.heap.size ∧ W.cell? ⟨P, o + i, none⟩ = some (.string (strB (gL l i))) := by
  obtain ⟨P, o, e, hP, hc⟩ := h.rd (by simp; omega)
  refine ⟨P, o, e, hP, hc i _ ?_⟩
  rw [List.getElem?_map, List.getElem?_eq_getElem hi]
  unfold gL
  rw [List.getD_eq_getElem?_getD, List.getElem?_eq_getElem hi]; rfl
theorem Sh.kept0 {w W W' : World} {H : Nat} {K : List Nat} {m : Nat} (h : Sh w W H K m) (a : Apart [] W W') : Sh w W' H K m := by
  obtain ⟨bl, bc, sl, wl, sc, rb, rh, rs, rw', hS⟩ := h
  exact ⟨_, _, _, _, _, _, _, _, _, hS.kept0 a⟩
set_option maxHeartbeats 16000000 in
set_option maxRecDepth 100000 in
theorem stands_ok {w W : World} {H : Nat} {K : List Nat} {m : Nat} (hsh : Sh w W H K m) (hm : m ≤ 10000) : Calls Try.prog 37 #[.pointer (some ⟨H, 0, none⟩)] W fun r W' => r = .returned (.bool true) ∧ Apart [] W W' := by
  obtain ⟨bl, bc, sl, wl, sc, rb, rh, rs, rw', hS⟩ := hsh
  have hrb : rb.n = bl.length := by have := hS.nb.own.1; rw [List.length_map] at this; omega
  have hrh : rh.n = bl.length := by have := hS.nh.own.1; rw [List.length_map, hS.lb] at this; omega
  have hrs : rs.n = sl.length := by have := hS.ns.own.1; rw [List.length_map] at this; omega
  have hrw : rw'.n = sl.length := by have := hS.nw.own.1; rw [List.length_map, hS.lw] at this; omega
  have HB := hid hrb
  have HHn := hid hrh
  have HSn := hid hrs
  have HWn := hid hrw
  have hb1 : rb.n ≤ 30000 := by have := hS.lim; omega
  have hs1 : rs.n ≤ 30000 := by have := hS.lim; omega
  have HS := hid hS
  clear hS hrb hrh hrs hrw hm
  go_enter Try.func37, Try.ntmps37
  go_wp2_with fail
  go_loopw [3] (fun a wt => ∃ i : Nat, a = .int .i64 (i : Nat) ∧ i ≤ rb.n ∧ Apart [] W wt) (fun a _ => rb.n - (intOf a).toNat)
  case atStart => exact ⟨0, rfl, Nat.zero_le _, Apart.refl _ _⟩
  case round =>
    obtain ⟨i, rfl, hile, hap⟩ := hrel
    have HAP := hid hap
    have S := HS.out.kept0 hap
    have x0 := S.cell.1
    clear hap
    by_cases hlt : i < rb.n
    · have hlti : ((i : Nat) : Int) < (rb.n : Int) := by omega
      have hil : i < bl.length := by have := HB.out; omega
      have hrhi : ((i : Nat) : Int) < (rh.n : Int) := by have := HB.out; have := HHn.out; omega
      obtain ⟨P, o, hP, -⟩ := row_at HS.out.nb hil
      obtain ⟨Q, q, hQ, -⟩ := str_at HS.out.nh (i := i) (by rw [HS.out.lb]; exact hil)
      have HCL : Hid (∀ X, Apart [] W X → X.cell? ⟨H, 0, none⟩ = some (.slice (some ⟨P, o, none⟩) rb.n rb.c) ∧ X.cell? ⟨H, 1, none⟩ = some (.slice (some ⟨Q, q, none⟩) rh.n rh.c) ∧ X.cell? ⟨P, o + i, none⟩ = some (.slice (gS bl i).p (gS bl i).n (gS bl i).c) ∧ X.cell? ⟨Q, q + i, none⟩ = some (.string (strB (gL bc i))) ∧ Sem.run Try.prog (convert 28 9 (.slice (gS bl i).p (gS bl i).n (gS bl i).c)) X = .ok (.string (strB (gL bc i))) X) := fun X a => by
        have S := HS.out.kept0 a
        obtain ⟨P', o', hP', -, c0⟩ := row_at S.nb hil
        obtain ⟨Q', q', hQ', -, c1⟩ := str_at S.nh (i := i) (by rw [S.lb]; exact hil)
        rw [hP] at hP'
        rw [hQ] at hQ'
        simp at hP' hQ'
        obtain ⟨rfl, rfl⟩ := hP'
        obtain ⟨rfl, rfl⟩ := hQ'
        have hbi := (S.b i hil).1
        exact ⟨by rw [← hP]; exact S.cell.1, by rw [← hQ]; exact S.cell.2.1, c0, c1, conv_bytes hbi.rd hbi.len hbi.ok⟩
      generalize gS bl i = bi at HCL
      generalize strB (gL bc i) = si at HCL
      rw [hP] at x0
      clear hP hQ hil S
      go_upto_region 4 with fail
      clear x0
      have hAd : Apart [] W wr.drew := HAP.out.drew
      refine wp_region_held_drew (S := fun X => Apart [] W X) (by kernel_rfl) hAd (fun hHeld => ?_)
      generalize wr.drew = wd at *
      refine tk 0 14 (.pointer (some ⟨H, 0, none⟩)) rfl ?_ ?_
      · intro W hSW; go_simp
      simp only [Act.put, List.setIfInBounds_toArray, List.set_cons_zero, List.set_cons_succ]
      refine tk 1 15 (.pointer (some ⟨H, 0, none⟩)) rfl ?_ ?_
      · intro W hSW; go_simp
      simp only [Act.put, List.setIfInBounds_toArray, List.set_cons_zero, List.set_cons_succ]
      refine tk 2 16 (.pointer (some ⟨H, 0, none⟩)) rfl ?_ ?_
      · intro W hSW; go_simp
      simp only [Act.put, List.setIfInBounds_toArray, List.set_cons_zero, List.set_cons_succ]
      refine tk 3 17 (.slice (some ⟨P, o, none⟩) rb.n rb.c) rfl ?_ ?_
      · intro W hSW; obtain ⟨c0, c1, c2, c3, c4⟩ := HCL.out W hSW; go_simp
      simp only [Act.put, List.setIfInBounds_toArray, List.set_cons_zero, List.set_cons_succ]
      refine tk 4 18 (.int .i64 (i : Nat)) rfl ?_ ?_
      · intro W hSW; go_simp
      simp only [Act.put, List.setIfInBounds_toArray, List.set_cons_zero, List.set_cons_succ]
      refine tk 5 19 (.pointer (some ⟨P, o + i, none⟩)) rfl ?_ ?_
      · intro W hSW; go_simp
      simp only [Act.put, List.setIfInBounds_toArray, List.set_cons_zero, List.set_cons_succ]
      refine tk 6 20 (.slice bi.p bi.n bi.c) rfl ?_ ?_
      · intro W hSW; obtain ⟨c0, c1, c2, c3, c4⟩ := HCL.out W hSW; go_simp
      simp only [Act.put, List.setIfInBounds_toArray, List.set_cons_zero, List.set_cons_succ]
      refine tk 7 21 (.string si) rfl ?_ ?_
      · intro W hSW; obtain ⟨c0, c1, c2, c3, c4⟩ := HCL.out W hSW; go_simp
      simp only [Act.put, List.setIfInBounds_toArray, List.set_cons_zero, List.set_cons_succ]
      refine tk 8 22 (.pointer (some ⟨H, 0, none⟩)) rfl ?_ ?_
      · intro W hSW; go_simp
      simp only [Act.put, List.setIfInBounds_toArray, List.set_cons_zero, List.set_cons_succ]
      refine tk 9 23 (.pointer (some ⟨H, 0, none⟩)) rfl ?_ ?_
      · intro W hSW; go_simp
      simp only [Act.put, List.setIfInBounds_toArray, List.set_cons_zero, List.set_cons_succ]
      refine tk 10 24 (.pointer (some ⟨H, 1, none⟩)) rfl ?_ ?_
      · intro W hSW; go_simp
      simp only [Act.put, List.setIfInBounds_toArray, List.set_cons_zero, List.set_cons_succ]
      refine tk 11 25 (.slice (some ⟨Q, q, none⟩) rh.n rh.c) rfl ?_ ?_
      · intro W hSW; obtain ⟨c0, c1, c2, c3, c4⟩ := HCL.out W hSW; go_simp
      simp only [Act.put, List.setIfInBounds_toArray, List.set_cons_zero, List.set_cons_succ]
      refine tk 12 26 (.int .i64 (i : Nat)) rfl ?_ ?_
      · intro W hSW; go_simp
      simp only [Act.put, List.setIfInBounds_toArray, List.set_cons_zero, List.set_cons_succ]
      refine tk 13 27 (.pointer (some ⟨Q, q + i, none⟩)) rfl ?_ ?_
      · intro W hSW; go_simp
      simp only [Act.put, List.setIfInBounds_toArray, List.set_cons_zero, List.set_cons_succ]
      refine tk 14 28 (.string si) rfl ?_ ?_
      · intro W hSW; obtain ⟨c0, c1, c2, c3, c4⟩ := HCL.out W hSW; go_simp
      simp only [Act.put, List.setIfInBounds_toArray, List.set_cons_zero, List.set_cons_succ]
      refine tk 15 29 (.bool false) rfl ?_ ?_
      · intro W hSW; go_simp
      simp only [Act.put, List.setIfInBounds_toArray, List.set_cons_zero, List.set_cons_succ]
      refine wpAnyH_done (by kernel_rfl) ?_ _
      have HAd := hid hAd
      clear hHeld hAd
      go_wp2_with fail
      go_roundw
      case rel => exact ⟨i + 1, by go_num, by omega, HAd.out⟩
      case measure => simp [intOf]; omega
    · have hlti : ¬ ((i : Nat) : Int) < (rb.n : Int) := by omega
      clear hlt hile
      go_wp2_with fail
      clear x0 S
      go_loopw [4] (fun a wt => ∃ i : Nat, a = .int .i64 (i : Nat) ∧ i ≤ rs.n ∧ Apart [] W wt) (fun a _ => rs.n - (intOf a).toNat)
      case atStart => exact ⟨0, rfl, Nat.zero_le _, HAP.out⟩
      case round =>
        clear HAP hlti
        obtain ⟨i, rfl, hile, hap⟩ := hrel
        have HAP := hid hap
        have x2 := (HS.out.kept0 hap).cell.2.2.1
        clear hap
        by_cases hlt : i < rs.n
        · have hlti : ((i : Nat) : Int) < (rs.n : Int) := by omega
          have hil : i < sl.length := by have := HSn.out; omega
          have hrwi : ((i : Nat) : Int) < (rw'.n : Int) := by have := HSn.out; have := HWn.out; omega
          obtain ⟨P, o, hP, -⟩ := row_at HS.out.ns hil
          obtain ⟨Q, q, hQ, -⟩ := row_at HS.out.nw (i := i) (by rw [HS.out.lw]; exact hil)
          have HCL : Hid (∀ X, Apart [] W X → X.cell? ⟨H, 2, none⟩ = some (.slice (some ⟨P, o, none⟩) rs.n rs.c) ∧ X.cell? ⟨H, 3, none⟩ = some (.slice (some ⟨Q, q, none⟩) rw'.n rw'.c) ∧ X.cell? ⟨P, o + i, none⟩ = some (.slice (gS sl i).p (gS sl i).n (gS sl i).c) ∧ X.cell? ⟨Q, q + i, none⟩ = some (.slice (gS wl i).p (gS wl i).n (gS wl i).c)) := fun X a => by
            have S := HS.out.kept0 a
            obtain ⟨P', o', hP', -, c0⟩ := row_at S.ns hil
            obtain ⟨Q', q', hQ', -, c1⟩ := row_at S.nw (i := i) (by rw [S.lw]; exact hil)
            rw [hP] at hP'
            rw [hQ] at hQ'
            simp at hP' hQ'
            obtain ⟨rfl, rfl⟩ := hP'
            obtain ⟨rfl, rfl⟩ := hQ'
            exact ⟨by rw [← hP]; exact S.cell.2.2.1, by rw [← hQ]; exact S.cell.2.2.2.1, c0, c1⟩
          have HCA : Hid (∀ X, Apart [] W X → Calls Try.prog 57 #[.slice (gS sl i).p (gS sl i).n (gS sl i).c, .slice (gS wl i).p (gS wl i).n (gS wl i).c] X fun r w' => r = .returned (.bool true) ∧ Apart [] X w') := fun X a => by
            have S := HS.out.kept0 a
            exact spans_ok (S.s i hil).1.1 (S.s i hil).2.1 true (by simp)
          generalize gS sl i = si at HCL HCA
          generalize gS wl i = wi at HCL HCA
          rw [hP] at x2
          clear hP hQ hil
          go_upto_region 9 with fail
          clear x2
          have hAd : Apart [] W wr.drew := HAP.out.drew
          refine wp_region_held_drew (S := fun X => Apart [] W X) (by kernel_rfl) hAd (fun hHeld => ?_)
          generalize wr.drew = wd at *
          refine tk 0 39 (.pointer (some ⟨H, 0, none⟩)) rfl ?_ ?_
          · intro W hSW; go_simp
          simp only [Act.put, List.setIfInBounds_toArray, List.set_cons_zero, List.set_cons_succ]
          refine tk 1 40 (.pointer (some ⟨H, 0, none⟩)) rfl ?_ ?_
          · intro W hSW; go_simp
          simp only [Act.put, List.setIfInBounds_toArray, List.set_cons_zero, List.set_cons_succ]
          refine tk 2 41 (.pointer (some ⟨H, 2, none⟩)) rfl ?_ ?_
          · intro W hSW; go_simp
          simp only [Act.put, List.setIfInBounds_toArray, List.set_cons_zero, List.set_cons_succ]
          refine tk 3 42 (.slice (some ⟨P, o, none⟩) rs.n rs.c) rfl ?_ ?_
          · intro W hSW; obtain ⟨c0, c1, c2, c3⟩ := HCL.out W hSW; go_simp
          simp only [Act.put, List.setIfInBounds_toArray, List.set_cons_zero, List.set_cons_succ]
          refine tk 4 43 (.int .i64 (i : Nat)) rfl ?_ ?_
          · intro W hSW; go_simp
          simp only [Act.put, List.setIfInBounds_toArray, List.set_cons_zero, List.set_cons_succ]
          refine tk 5 44 (.pointer (some ⟨P, o + i, none⟩)) rfl ?_ ?_
          · intro W hSW; go_simp
          simp only [Act.put, List.setIfInBounds_toArray, List.set_cons_zero, List.set_cons_succ]
          refine tk 6 45 (.slice si.p si.n si.c) rfl ?_ ?_
          · intro W hSW; obtain ⟨c0, c1, c2, c3⟩ := HCL.out W hSW; go_simp
          simp only [Act.put, List.setIfInBounds_toArray, List.set_cons_zero, List.set_cons_succ]
          refine tk 7 46 (.pointer (some ⟨H, 0, none⟩)) rfl ?_ ?_
          · intro W hSW; go_simp
          simp only [Act.put, List.setIfInBounds_toArray, List.set_cons_zero, List.set_cons_succ]
          refine tk 8 47 (.pointer (some ⟨H, 0, none⟩)) rfl ?_ ?_
          · intro W hSW; go_simp
          simp only [Act.put, List.setIfInBounds_toArray, List.set_cons_zero, List.set_cons_succ]
          refine tk 9 48 (.pointer (some ⟨H, 3, none⟩)) rfl ?_ ?_
          · intro W hSW; go_simp
          simp only [Act.put, List.setIfInBounds_toArray, List.set_cons_zero, List.set_cons_succ]
          refine tk 10 49 (.slice (some ⟨Q, q, none⟩) rw'.n rw'.c) rfl ?_ ?_
          · intro W hSW; obtain ⟨c0, c1, c2, c3⟩ := HCL.out W hSW; go_simp
          simp only [Act.put, List.setIfInBounds_toArray, List.set_cons_zero, List.set_cons_succ]
          refine tk 11 50 (.int .i64 (i : Nat)) rfl ?_ ?_
          · intro W hSW; go_simp
          simp only [Act.put, List.setIfInBounds_toArray, List.set_cons_zero, List.set_cons_succ]
          refine tk 12 51 (.pointer (some ⟨Q, q + i, none⟩)) rfl ?_ ?_
          · intro W hSW; go_simp
          simp only [Act.put, List.setIfInBounds_toArray, List.set_cons_zero, List.set_cons_succ]
          refine tk 13 52 (.slice wi.p wi.n wi.c) rfl ?_ ?_
          · intro W hSW; obtain ⟨c0, c1, c2, c3⟩ := HCL.out W hSW; go_simp
          simp only [Act.put, List.setIfInBounds_toArray, List.set_cons_zero, List.set_cons_succ]
          refine wpAnyH_ready (rs := [14]) (by kernel_rfl) (by simp) ?_
          refine AllReadyH.cons rfl (fun KK hKK => ?_) AllReadyH.nil
          go_simp
          refine (HCA.out _ hHeld).mono ?_
          rintro _ wa ⟨rfl, ha⟩
          have hSa := hHeld.trans ha
          have HSa := hid hSa
          clear ha
          try dsimp only
          refine hKK.out _ _ hSa (fun hHeld => ?_)
          clear hKK KK
          try simp only [Act.put, List.setIfInBounds_toArray, List.set_cons_zero, List.set_cons_succ]
          refine tk 15 54 (.bool false) rfl ?_ ?_
          · intro W hSW; go_simp
          simp only [Act.put, List.setIfInBounds_toArray, List.set_cons_zero, List.set_cons_succ]
          refine wpAnyH_done (by kernel_rfl) ?_ _
          clear hHeld hSa hAd
          go_wp2_with fail
          go_roundw
          case rel => exact ⟨i + 1, by go_num, by omega, HSa.out⟩
          case measure => simp [intOf]; omega
        · have hlti : ¬ ((i : Nat) : Int) < (rs.n : Int) := by omega
          go_wp2_with fail
          go_ret
          exact ⟨rfl, HAP.out⟩
end Go.Proofs.Ytllhmidpphlbhaa.ds
namespace Go.Proofs.Ytllhmidpphlbhaa.ds
open Go.ChangeShapes Go.WideShapes Go.ChangeAt Go.RowKit Go.Sort
set_option linter.unusedVariables false
set_option linter.unusedSimpArgs false

set_option maxHeartbeats 16000000 in
set_option maxRecDepth 100000 in
theorem alike_ok (w : World) (kd gn ow : Int) (s t s2 t2 : Sl) (ks ks2 : List Ck) (cs : List (Int × List S)) (es es2 : List E) (rs : List Wr) (h1 : RCs w s ks cs) (h2 : RCs w s2 ks2 cs) (h3 : RWs w t es rs) (h4 : RWs w t2 es2 rs) : Calls Try.prog 34 #[.agg #[.int .i64 kd, .int .i64 gn, .int .i64 ow, .slice s.p s.n s.c, .slice t.p t.n t.c], .agg #[.int .i64 kd, .int .i64 gn, .int .i64 ow, .slice s2.p s2.n s2.c, .slice t2.p t2.n t2.c]] w fun r w' => r = .returned (.bool true) ∧ Apart [] w w' := by
  obtain ⟨A, HXA⟩ : ∃ A, Hid (A = w.heap.size) := ⟨_, rfl⟩
  obtain ⟨w1, hw1⟩ : ∃ V, V = w.alloc (.cells #[.int .i64 kd, .int .i64 gn, .int .i64 ow, .slice s.p s.n s.c, .slice t.p t.n t.c] 25) := ⟨_, rfl⟩
  obtain ⟨D, HXD⟩ : ∃ A, Hid (A = w1.heap.size) := ⟨_, rfl⟩
  obtain ⟨w2, hw2⟩ : ∃ V, V = w1.alloc (.cells #[.int .i64 kd, .int .i64 gn, .int .i64 ow, .slice s2.p s2.n s2.c, .slice t2.p t2.n t2.c] 25) := ⟨_, rfl⟩
  have a1 : Apart [] w w1 := by rw [hw1]; exact (Apart.refl [] w).alloc _
  have a2 : Apart [] w1 w2 := by rw [hw2]; exact (Apart.refl [] w1).alloc _
  have hA1 : w1.heap[A]? = some (.cells #[.int .i64 kd, .int .i64 gn, .int .i64 ow, .slice s.p s.n s.c, .slice t.p t.n t.c] 25 (0, 0)) := by rw [hw1, HXA.out]; exact heap_alloc_new w _
  have hD2 : w2.heap[D]? = some (.cells #[.int .i64 kd, .int .i64 gn, .int .i64 ow, .slice s2.p s2.n s2.c, .slice t2.p t2.n t2.c] 25 (0, 0)) := by rw [hw2, HXD.out]; exact heap_alloc_new w1 _
  have heD : A + 1 = D := by rw [HXD.out, hw1, HXA.out]; exact (Array.size_push _).symm
  have hA2 := keep0 a2 hA1
  have HA2 := hid hA2
  have HD2 := hid hD2
  have HW2 := hid (a1.trans a2)
  obtain ⟨x0, x1, x2, x3, x4⟩ := row5v hA2
  obtain ⟨y0, y1, y2, y3, y4⟩ := row5v hD2
  have en1 : s2.n = s.n := by rw [← h1.cl, h2.cl]
  have en2 : t2.n = t.n := by rw [← h3.rl, h4.rl]
  have hn1 : (((s.n : Nat) : Int) != ((s2.n : Nat) : Int)) = false := by rw [en1]; simp
  have hn2 : (((t.n : Nat) : Int) != ((t2.n : Nat) : Int)) = false := by rw [en2]; simp
  have H1 := hid h1
  have H2 := hid h2
  have H3 := hid h3
  have H4 := hid h4
  have HEN1 := hid en1
  have HEN2 := hid en2
  have hl1 := h1.lim
  have hl3 := h3.lim
  clear a1 a2 hA1 hD2 hA2 h1 h2 h3 h4 en1 en2
  go_enter Try.func34, Try.ntmps34
  go_upto_region 1 with fail
  rw [← hw1, ← HXA.out, ← hw2, heD]
  clear hw1 hw2 heD
  go_wp2_with fail
  clear x0 x1 x2 x3 x4 y0 y1 y2 y3 y4 hn1 hn2
  go_loopw [5] (fun b wt => ∃ i : Nat, b = .int .i64 (i : Nat) ∧ i ≤ s.n ∧ Apart [] w2 wt) (fun b _ => s.n - (intOf b).toNat)
  case atStart => exact ⟨0, rfl, Nat.zero_le _, Apart.refl _ _⟩
  case round =>
    obtain ⟨i, rfl, hile, hap⟩ := hrel
    have HAP := hid hap
    have x3 := crow (keep0 hap HA2.out) 3 (.slice s.p s.n s.c) rfl
    clear hap
    by_cases hlt : i < s.n
    · have hlti : ((i : Nat) : Int) < (s.n : Int) := by omega
      have hlt2 : ((i : Nat) : Int) < (s2.n : Int) := by have := HEN1.out; omega
      obtain ⟨P, o, hP, -⟩ := H1.out.cells i hlt
      obtain ⟨Q, q, hQ, -⟩ := H2.out.cells i (by have := HEN1.out; omega)
      have HCL : Hid (∀ W, Apart [] w2 W → W.cell? ⟨A, 3, none⟩ = some (.slice (some ⟨P, o, none⟩) s.n s.c) ∧ W.cell? ⟨D, 3, none⟩ = some (.slice (some ⟨Q, q, none⟩) s2.n s2.c) ∧ (W.cell? ⟨P, o + i * 2, none⟩ = some (.int .i64 (gC cs i).1) ∧ W.cell? ⟨P, o + i * 2 + 1, none⟩ = some (.slice (gK ks i).s.p (gK ks i).s.n (gK ks i).s.c)) ∧ W.cell? ⟨Q, q + i * 2, none⟩ = some (.int .i64 (gC cs i).1) ∧ W.cell? ⟨Q, q + i * 2 + 1, none⟩ = some (.slice (gK ks2 i).s.p (gK ks2 i).s.n (gK ks2 i).s.c)) := fun W hW => by
        obtain ⟨P', o', hP', _, c0, c1⟩ := (H1.out.kept0 (HW2.out.trans hW)).cells i hlt
        obtain ⟨Q', q', hQ', _, d0, d1⟩ := (H2.out.kept0 (HW2.out.trans hW)).cells i (by have := HEN1.out; omega)
        rw [hP] at hP'
        rw [hQ] at hQ'
        simp at hP' hQ'
        obtain ⟨rfl, rfl⟩ := hP'
        obtain ⟨rfl, rfl⟩ := hQ'
        rw [(H1.out.each i hlt).1] at c0
        rw [(H2.out.each i (by have := HEN1.out; omega)).1] at d0
        exact ⟨by rw [← hP]; exact crow (keep0 hW HA2.out) 3 _ rfl, by rw [← hQ]; exact crow (keep0 hW HD2.out) 3 _ rfl, ⟨c0, c1⟩, d0, d1⟩
      have HCALL : Hid (∀ W, Apart [] w2 W → Calls Try.prog 57 #[.slice (gK ks i).s.p (gK ks i).s.n (gK ks i).s.c, .slice (gK ks2 i).s.p (gK ks2 i).s.n (gK ks2 i).s.c] W fun r w' => r = .returned (.bool true) ∧ Apart [] W w') := fun W hW => spans_ok ((H1.out.each i hlt).2.1.kept0 (HW2.out.trans hW)) ((H2.out.each i (by have := HEN1.out; omega)).2.1.kept0 (HW2.out.trans hW)) true (by simp)
      rw [hP] at x3
      clear hP hQ
      generalize gK ks i = k1 at *
      generalize gK ks2 i = k2 at *
      have hAd := HAP.out.drew
      go_upto_region 6 with fail
      refine wp_region_held_drew (S := fun W => Apart [] w2 W) (by kernel_rfl) hAd (fun hHeld => ?_)
      generalize wr.drew = wd at *
      clear x3
      refine tk 0 51 (.pointer (some ⟨A, 3, none⟩)) rfl ?_ ?_
      · intro W hSW; go_simp
      simp only [Act.put, List.setIfInBounds_toArray, List.set_cons_zero, List.set_cons_succ]
      refine tk 1 52 (.slice (some ⟨P, o, none⟩) s.n s.c) rfl ?_ ?_
      · intro W hSW; obtain ⟨a3, b3, ⟨c0, c1⟩, d0, d1⟩ := HCL.out W hSW; go_simp
      simp only [Act.put, List.setIfInBounds_toArray, List.set_cons_zero, List.set_cons_succ]
      refine tk 2 53 (.int .i64 (i : Nat)) rfl ?_ ?_
      · intro W hSW; go_simp
      simp only [Act.put, List.setIfInBounds_toArray, List.set_cons_zero, List.set_cons_succ]
      refine tk 3 54 (.pointer (some ⟨P, o + i * 2, none⟩)) rfl ?_ ?_
      · intro W hSW; go_simp
      simp only [Act.put, List.setIfInBounds_toArray, List.set_cons_zero, List.set_cons_succ]
      refine tk 4 55 (.pointer (some ⟨P, o + i * 2, none⟩)) rfl ?_ ?_
      · intro W hSW; go_simp
      simp only [Act.put, List.setIfInBounds_toArray, List.set_cons_zero, List.set_cons_succ]
      refine tk 5 56 (.int .i64 (gC cs i).1) rfl ?_ ?_
      · intro W hSW; obtain ⟨a3, b3, ⟨c0, c1⟩, d0, d1⟩ := HCL.out W hSW; go_simp
      simp only [Act.put, List.setIfInBounds_toArray, List.set_cons_zero, List.set_cons_succ]
      refine tk 6 57 (.pointer (some ⟨D, 3, none⟩)) rfl ?_ ?_
      · intro W hSW; go_simp
      simp only [Act.put, List.setIfInBounds_toArray, List.set_cons_zero, List.set_cons_succ]
      refine tk 7 58 (.slice (some ⟨Q, q, none⟩) s2.n s2.c) rfl ?_ ?_
      · intro W hSW; obtain ⟨a3, b3, ⟨c0, c1⟩, d0, d1⟩ := HCL.out W hSW; go_simp
      simp only [Act.put, List.setIfInBounds_toArray, List.set_cons_zero, List.set_cons_succ]
      refine tk 8 59 (.int .i64 (i : Nat)) rfl ?_ ?_
      · intro W hSW; go_simp
      simp only [Act.put, List.setIfInBounds_toArray, List.set_cons_zero, List.set_cons_succ]
      refine tk 9 60 (.pointer (some ⟨Q, q + i * 2, none⟩)) rfl ?_ ?_
      · intro W hSW; go_simp
      simp only [Act.put, List.setIfInBounds_toArray, List.set_cons_zero, List.set_cons_succ]
      refine tk 10 61 (.pointer (some ⟨Q, q + i * 2, none⟩)) rfl ?_ ?_
      · intro W hSW; go_simp
      simp only [Act.put, List.setIfInBounds_toArray, List.set_cons_zero, List.set_cons_succ]
      refine tk 11 62 (.int .i64 (gC cs i).1) rfl ?_ ?_
      · intro W hSW; obtain ⟨a3, b3, ⟨c0, c1⟩, d0, d1⟩ := HCL.out W hSW; go_simp
      simp only [Act.put, List.setIfInBounds_toArray, List.set_cons_zero, List.set_cons_succ]
      refine tk 12 63 (.bool false) rfl ?_ ?_
      · intro W hSW; go_simp
      simp only [Act.put, List.setIfInBounds_toArray, List.set_cons_zero, List.set_cons_succ]
      refine tk 13 64 (.bool false) rfl ?_ ?_
      · intro W hSW; go_simp
      simp only [Act.put, List.setIfInBounds_toArray, List.set_cons_zero, List.set_cons_succ]
      refine tk 14 65 (.pointer (some ⟨A, 3, none⟩)) rfl ?_ ?_
      · intro W hSW; go_simp
      simp only [Act.put, List.setIfInBounds_toArray, List.set_cons_zero, List.set_cons_succ]
      refine tk 15 66 (.slice (some ⟨P, o, none⟩) s.n s.c) rfl ?_ ?_
      · intro W hSW; obtain ⟨a3, b3, ⟨c0, c1⟩, d0, d1⟩ := HCL.out W hSW; go_simp
      simp only [Act.put, List.setIfInBounds_toArray, List.set_cons_zero, List.set_cons_succ]
      refine tk 16 67 (.int .i64 (i : Nat)) rfl ?_ ?_
      · intro W hSW; go_simp
      simp only [Act.put, List.setIfInBounds_toArray, List.set_cons_zero, List.set_cons_succ]
      refine tk 17 68 (.pointer (some ⟨P, o + i * 2, none⟩)) rfl ?_ ?_
      · intro W hSW; go_simp
      simp only [Act.put, List.setIfInBounds_toArray, List.set_cons_zero, List.set_cons_succ]
      refine tk 18 69 (.pointer (some ⟨P, o + i * 2 + 1, none⟩)) rfl ?_ ?_
      · intro W hSW; go_simp
      simp only [Act.put, List.setIfInBounds_toArray, List.set_cons_zero, List.set_cons_succ]
      refine tk 19 70 (.slice k1.s.p k1.s.n k1.s.c) rfl ?_ ?_
      · intro W hSW; obtain ⟨a3, b3, ⟨c0, c1⟩, d0, d1⟩ := HCL.out W hSW; go_simp
      simp only [Act.put, List.setIfInBounds_toArray, List.set_cons_zero, List.set_cons_succ]
      refine tk 20 71 (.pointer (some ⟨D, 3, none⟩)) rfl ?_ ?_
      · intro W hSW; go_simp
      simp only [Act.put, List.setIfInBounds_toArray, List.set_cons_zero, List.set_cons_succ]
      refine tk 21 72 (.slice (some ⟨Q, q, none⟩) s2.n s2.c) rfl ?_ ?_
      · intro W hSW; obtain ⟨a3, b3, ⟨c0, c1⟩, d0, d1⟩ := HCL.out W hSW; go_simp
      simp only [Act.put, List.setIfInBounds_toArray, List.set_cons_zero, List.set_cons_succ]
      refine tk 22 73 (.int .i64 (i : Nat)) rfl ?_ ?_
      · intro W hSW; go_simp
      simp only [Act.put, List.setIfInBounds_toArray, List.set_cons_zero, List.set_cons_succ]
      refine tk 23 74 (.pointer (some ⟨Q, q + i * 2, none⟩)) rfl ?_ ?_
      · intro W hSW; go_simp
      simp only [Act.put, List.setIfInBounds_toArray, List.set_cons_zero, List.set_cons_succ]
      refine tk 24 75 (.pointer (some ⟨Q, q + i * 2 + 1, none⟩)) rfl ?_ ?_
      · intro W hSW; go_simp
      simp only [Act.put, List.setIfInBounds_toArray, List.set_cons_zero, List.set_cons_succ]
      refine tk 25 76 (.slice k2.s.p k2.s.n k2.s.c) rfl ?_ ?_
      · intro W hSW; obtain ⟨a3, b3, ⟨c0, c1⟩, d0, d1⟩ := HCL.out W hSW; go_simp
      simp only [Act.put, List.setIfInBounds_toArray, List.set_cons_zero, List.set_cons_succ]
      refine wpAnyH_ready (rs := [26]) (by kernel_rfl) (by simp) ?_
      refine AllReadyH.cons rfl (fun KK hKK => ?_) AllReadyH.nil
      go_simp
      refine (HCALL.out _ hHeld).mono ?_
      rintro _ wa ⟨rfl, ha⟩
      have hSa := hHeld.trans ha
      have HSa := hid hSa
      clear ha
      try dsimp only
      refine hKK.out _ _ hSa (fun hHeld => ?_)
      clear hKK KK
      try simp only [Act.put, List.setIfInBounds_toArray, List.set_cons_zero, List.set_cons_succ]
      refine tk 27 78 (.bool false) rfl ?_ ?_
      · intro W hSW; go_simp
      simp only [Act.put, List.setIfInBounds_toArray, List.set_cons_zero, List.set_cons_succ]
      refine tk 28 79 (.bool false) rfl ?_ ?_
      · intro W hSW; go_simp
      simp only [Act.put, List.setIfInBounds_toArray, List.set_cons_zero, List.set_cons_succ]
      refine wpAnyH_done (by kernel_rfl) ?_ _
      clear hHeld hSa hAd
      go_wp2_with fail
      go_roundw
      case rel => exact ⟨i + 1, by go_num, by omega, HSa.out⟩
      case measure => simp [intOf]; omega
    · have hlti : ¬ ((i : Nat) : Int) < (s.n : Int) := by omega
      go_wp2_with fail
      clear x3
      go_loopw [6] (fun b wt => ∃ i : Nat, b = .int .i64 (i : Nat) ∧ i ≤ t.n ∧ Apart [] w2 wt) (fun b _ => t.n - (intOf b).toNat)
      case atStart => exact ⟨0, rfl, Nat.zero_le _, HAP.out⟩
      case round =>
        clear HAP hlti hile hlt
        obtain ⟨i, rfl, hile, hap⟩ := hrel
        have HAP := hid hap
        have x4 := crow (keep0 hap HA2.out) 4 (.slice t.p t.n t.c) rfl
        clear hap
        by_cases hlt : i < t.n
        · have hlti : ((i : Nat) : Int) < (t.n : Int) := by omega
          have hlt2 : ((i : Nat) : Int) < (t2.n : Int) := by have := HEN2.out; omega
          obtain ⟨P, o, hP, -⟩ := H3.out.cells i hlt
          obtain ⟨Q, q, hQ, -⟩ := H4.out.cells i (by have := HEN2.out; omega)
          obtain ⟨e0, He0⟩ : ∃ e, Hid (e = gE es i) := ⟨_, rfl⟩
          obtain ⟨e1, He1⟩ : ∃ e, Hid (e = gE es2 i) := ⟨_, rfl⟩
          have HCL : Hid (∀ W, Apart [] w2 W → W.cell? ⟨A, 4, none⟩ = some (.slice (some ⟨P, o, none⟩) t.n t.c) ∧ W.cell? ⟨D, 4, none⟩ = some (.slice (some ⟨Q, q, none⟩) t2.n t2.c) ∧ (W.cell? ⟨P, o + i * 6, none⟩ = some (.int .i64 e0.n) ∧ W.cell? ⟨P, o + i * 6 + 1, none⟩ = some (.int .i64 e0.c) ∧ W.cell? ⟨P, o + i * 6 + 2, none⟩ = some (.string e0.k) ∧ W.cell? ⟨P, o + i * 6 + 3, none⟩ = some (.bool e0.d) ∧ W.cell? ⟨P, o + i * 6 + 4, none⟩ = some (.slice e0.v.p e0.v.n e0.v.c) ∧ W.cell? ⟨P, o + i * 6 + 5, none⟩ = some (.slice e0.x.p e0.x.n e0.x.c)) ∧ W.cell? ⟨Q, q + i * 6, none⟩ = some (.int .i64 e1.n) ∧ W.cell? ⟨Q, q + i * 6 + 1, none⟩ = some (.int .i64 e1.c) ∧ W.cell? ⟨Q, q + i * 6 + 2, none⟩ = some (.string e1.k) ∧ W.cell? ⟨Q, q + i * 6 + 3, none⟩ = some (.bool e1.d) ∧ W.cell? ⟨Q, q + i * 6 + 4, none⟩ = some (.slice e1.v.p e1.v.n e1.v.c) ∧ W.cell? ⟨Q, q + i * 6 + 5, none⟩ = some (.slice e1.x.p e1.x.n e1.x.c)) := fun W hW => by
            obtain ⟨P', o', hP', _, c0, c1, c2, c3, c4, c5⟩ := (H3.out.kept0 (HW2.out.trans hW)).cells i hlt
            obtain ⟨Q', q', hQ', _, d0, d1, d2, d3, d4, d5⟩ := (H4.out.kept0 (HW2.out.trans hW)).cells i (by have := HEN2.out; omega)
            rw [hP] at hP'
            rw [hQ] at hQ'
            simp at hP' hQ'
            obtain ⟨rfl, rfl⟩ := hP'
            obtain ⟨rfl, rfl⟩ := hQ'
            rw [← He0.out] at c0 c1 c2 c3 c4 c5
            rw [← He1.out] at d0 d1 d2 d3 d4 d5
            exact ⟨by rw [← hP]; exact crow (keep0 hW HA2.out) 4 _ rfl, by rw [← hQ]; exact crow (keep0 hW HD2.out) 4 _ rfl, ⟨c0, c1, c2, c3, c4, c5⟩, d0, d1, d2, d3, d4, d5⟩
          have HCALL : Hid (∀ W, Apart [] w2 W → Calls Try.prog 44 #[.agg #[.int .i64 e0.n, .int .i64 e0.c, .string e0.k, .bool e0.d, .slice e0.v.p e0.v.n e0.v.c, .slice e0.x.p e0.x.n e0.x.c], .agg #[.int .i64 e1.n, .int .i64 e1.c, .string e1.k, .bool e1.d, .slice e1.v.p e1.v.n e1.v.c, .slice e1.x.p e1.x.n e1.x.c]] W fun r w' => r = .returned (.bool true) ∧ Apart [] W w') := fun W hW => by
            rw [He1.out, He0.out]
            exact lwrites_ok _ _ (gR rs i) (gR rs i) ((H3.out.each i hlt).kept0 (HW2.out.trans hW)) ((H4.out.each i (by have := HEN2.out; omega)).kept0 (HW2.out.trans hW)) true (by simp)
          rw [hP] at x4
          clear hP hQ
          have hAd := HAP.out.drew
          go_upto_region 11 with fail
          refine wp_region_held_drew (S := fun W => Apart [] w2 W) (by kernel_rfl) hAd (fun hHeld => ?_)
          generalize wr.drew = wd at *
          clear x4
          refine tk 0 87 (.pointer (some ⟨A, 4, none⟩)) rfl ?_ ?_
          · intro W hSW; go_simp
          simp only [Act.put, List.setIfInBounds_toArray, List.set_cons_zero, List.set_cons_succ]
          refine tk 1 88 (.slice (some ⟨P, o, none⟩) t.n t.c) rfl ?_ ?_
          · intro W hSW; obtain ⟨a4, b4, ⟨c0, c1, c2, c3, c4, c5⟩, d0, d1, d2, d3, d4, d5⟩ := HCL.out W hSW; go_simp
          simp only [Act.put, List.setIfInBounds_toArray, List.set_cons_zero, List.set_cons_succ]
          refine tk 2 89 (.int .i64 (i : Nat)) rfl ?_ ?_
          · intro W hSW; go_simp
          simp only [Act.put, List.setIfInBounds_toArray, List.set_cons_zero, List.set_cons_succ]
          refine tk 3 90 (.pointer (some ⟨P, o + i * 6, none⟩)) rfl ?_ ?_
          · intro W hSW; go_simp
          simp only [Act.put, List.setIfInBounds_toArray, List.set_cons_zero, List.set_cons_succ]
          refine tk 4 91 (.agg #[.int .i64 e0.n, .int .i64 e0.c, .string e0.k, .bool e0.d, .slice e0.v.p e0.v.n e0.v.c, .slice e0.x.p e0.x.n e0.x.c]) rfl ?_ ?_
          · intro W hSW; obtain ⟨a4, b4, ⟨c0, c1, c2, c3, c4, c5⟩, d0, d1, d2, d3, d4, d5⟩ := HCL.out W hSW; go_simp
          simp only [Act.put, List.setIfInBounds_toArray, List.set_cons_zero, List.set_cons_succ]
          refine tk 5 92 (.pointer (some ⟨D, 4, none⟩)) rfl ?_ ?_
          · intro W hSW; go_simp
          simp only [Act.put, List.setIfInBounds_toArray, List.set_cons_zero, List.set_cons_succ]
          refine tk 6 93 (.slice (some ⟨Q, q, none⟩) t2.n t2.c) rfl ?_ ?_
          · intro W hSW; obtain ⟨a4, b4, ⟨c0, c1, c2, c3, c4, c5⟩, d0, d1, d2, d3, d4, d5⟩ := HCL.out W hSW; go_simp
          simp only [Act.put, List.setIfInBounds_toArray, List.set_cons_zero, List.set_cons_succ]
          refine tk 7 94 (.int .i64 (i : Nat)) rfl ?_ ?_
          · intro W hSW; go_simp
          simp only [Act.put, List.setIfInBounds_toArray, List.set_cons_zero, List.set_cons_succ]
          refine tk 8 95 (.pointer (some ⟨Q, q + i * 6, none⟩)) rfl ?_ ?_
          · intro W hSW; go_simp
          simp only [Act.put, List.setIfInBounds_toArray, List.set_cons_zero, List.set_cons_succ]
          refine tk 9 96 (.agg #[.int .i64 e1.n, .int .i64 e1.c, .string e1.k, .bool e1.d, .slice e1.v.p e1.v.n e1.v.c, .slice e1.x.p e1.x.n e1.x.c]) rfl ?_ ?_
          · intro W hSW; obtain ⟨a4, b4, ⟨c0, c1, c2, c3, c4, c5⟩, d0, d1, d2, d3, d4, d5⟩ := HCL.out W hSW; go_simp
          simp only [Act.put, List.setIfInBounds_toArray, List.set_cons_zero, List.set_cons_succ]
          refine wpAnyH_ready (rs := [10]) (by kernel_rfl) (by simp) ?_
          refine AllReadyH.cons rfl (fun KK hKK => ?_) AllReadyH.nil
          go_simp
          refine (HCALL.out _ hHeld).mono ?_
          rintro _ wa ⟨rfl, ha⟩
          have hSa := hHeld.trans ha
          have HSa := hid hSa
          clear ha
          try dsimp only
          refine hKK.out _ _ hSa (fun hHeld => ?_)
          clear hKK KK
          try simp only [Act.put, List.setIfInBounds_toArray, List.set_cons_zero, List.set_cons_succ]
          refine tk 11 98 (.bool false) rfl ?_ ?_
          · intro W hSW; go_simp
          simp only [Act.put, List.setIfInBounds_toArray, List.set_cons_zero, List.set_cons_succ]
          refine wpAnyH_done (by kernel_rfl) ?_ _
          clear hHeld hSa hAd
          go_wp2_with fail
          go_roundw
          case rel => exact ⟨i + 1, by go_num, by omega, HSa.out⟩
          case measure => simp [intOf]; omega
        · have hlti : ¬ ((i : Nat) : Int) < (t.n : Int) := by omega
          go_wp2_with fail
          go_ret
          exact ⟨rfl, HW2.out.trans HAP.out⟩
end Go.Proofs.Ytllhmidpphlbhaa.ds
