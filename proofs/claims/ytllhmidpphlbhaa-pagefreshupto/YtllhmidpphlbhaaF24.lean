import Derived.Deep.RegionHeld
import Derived.OrdersHeld
import Derived.WalkKit
import Derived.ProofKit
import Derived.Lib.TrailingZeros
import Derived.Test.YtllhmidpphlbhaaChecked
import Derived.OpenShut
import Derived.Deep.QuietTactic
import Derived.BigQuiet
import Derived.BigRegion
import Derived.Laws.CopyOwn
import Derived.Laws.Bits64b
import Derived.Laws.MathBits
import Derived.Laws.ShiftsVarLaws
import Derived.WalkSmall
import Derived.Laws.ResultCell
import Derived.Lib.BitFns
import Derived.Laws.StructEq
import Derived.ArgAppend
import Derived.Deep.RegionLaw
import Derived.Deep.DeepAppendRoom
import Derived.Sort.WalkA
import Derived.Laws.Strings
import Derived.Deep.CutBlock
import Derived.Great.BuildSlice
import Derived.Laws.AppendOwnNone
import Derived.Lib.Overlaps
import Derived.Lib.AppendZerosOnto
import Derived.Laws.NewBlocks
import Derived.Laws.Externs
import Derived.Laws.IdiomCopy
import Derived.Laws.BytesString
import Derived.Deep.CutRange
import Derived.RangeFuncNested
import Derived.RangeFuncBound
import Derived.RangeFuncCalls
import Derived.RangeFuncLeaves
import Derived.Shelf.Abstract
import Derived.Shelf.RegionOpen
import Derived.OwnWalkIn
import Derived.TacticsInMore
import Derived.LoopNIn
import Derived.LoopIn
import GoSem.Claim
import GoSem.ClaimJoined
import GoSem.ClaimMapViews
import Derived.JoinedTies
import Derived.KernelRfl
import Derived.Deep.OwnRows
import Derived.Lib.LaidTab
import Derived.JoinedCond
import Derived.ShutString
import Derived.ChangeOld
import Derived.Below
import Derived.Carry
import Derived.ChangeSlices
import Derived.Deep.Slices
import Derived.Deep.DeepHandedRow
import Derived.RowKit
import Derived.ChangeShapes
import Derived.SizedLaws
import Derived.ChangeMaps5
import Derived.Lib.Walk
import Derived.Lib.SliceRun
import Derived.Lib.AppendStr
import Derived.Lib.ConvBytes
import Derived.Deep.RegionHeld3
import Derived.Deep.MidRow
import Derived.Laws.MakeOwn
import Derived.Lib.SlBytesConst
import Derived.Test.YtllhmidpphlbhaaRows
import Derived.Test.YtllhmidpphlbhaaF23
namespace Go.Proofs.Ytllhmidpphlbhaa.ds
open Go.ChangeShapes Go.WideShapes Go.ChangeAt Go.RowKit Go.Sort
set_option linter.unusedVariables false
set_option linter.unusedSimpArgs false

set_option maxHeartbeats 8000000 in
set_option maxRecDepth 100000 in
theorem rStor_ok {w : World} (e : E) (r : Wr) (hr : Reads w e r) (v : Bool) (hv : v = true ↔ Stor r) : Calls Try.prog 85 #[.agg #[.int .i64 e.n, .int .i64 e.c, .string e.k, .bool e.d, .slice e.v.p e.v.n e.v.c, .slice e.x.p e.x.n e.x.c]] w fun e w' => e = .returned (.bool v) ∧ Apart [] w w' := by
  obtain ⟨rn, rc, rk, rd, rvs, rxs⟩ := r
  obtain ⟨n, cc, k, d, sv, sx⟩ := e
  have e1 : n = rn := hr.n
  have e2 : cc = rc := hr.c
  have e3 : k = rk := hr.k
  have e4 : d = rd := hr.d
  subst e1 e2 e3 e4
  have HVN : Hid (rvs.length = sv.n) := by have := hr; exact this.6
  have HXL : Hid (L w sx.p sx.n rxs) := hr.x
  have HV := hid hv
  have HNO : Hid (¬ Stor ⟨n, cc, k, d, rvs, rxs⟩ → v = false) := fun h => by
    cases v with
    | false => rfl
    | true => exact absurd (HV.out.1 rfl) h
  obtain ⟨X, HXX⟩ : ∃ X, Hid (X = w.heap.size) := ⟨_, rfl⟩
  obtain ⟨w1, hw1⟩ : ∃ W, W = w.alloc (.cells #[.int .i64 n, .int .i64 cc, .string k, .bool d, .slice sv.p sv.n sv.c, .slice sx.p sx.n sx.c] 50) := ⟨_, rfl⟩
  have HX1 : Hid (w1.heap[X]? = some (.cells #[.int .i64 n, .int .i64 cc, .string k, .bool d, .slice sv.p sv.n sv.c, .slice sx.p sx.n sx.c] 50 (0, 0))) := by unfold Hid; rw [HXX.out, hw1]; exact heap_alloc_new w _
  have HA1 : Hid (Apart [] w w1) := by unfold Hid; rw [hw1]; exact (Apart.refl [] w).alloc _
  clear hr hv
  go_enter Try.func85, Try.ntmps85
  go_upto_region 1 with fail
  rw [← hw1, ← HXX.out]
  clear hw1 HXX
  obtain ⟨x0, x1, x2, x3, x4, x5⟩ := row6v HX1.out
  by_cases h1 : n < 0
  · have h1' := h1
    have hv : v = false := HNO.out (fun h => by have := h.n; dsimp only at this; omega)
    subst hv
    go_wp2_with fail
    go_ret
    exact ⟨rfl, HA1.out⟩
  · by_cases h2 : n ≥ 8
    · have h2' := h2
      have hv : v = false := HNO.out (fun h => by have := h.n; dsimp only at this; omega)
      subst hv
      go_wp2_with fail
      go_ret
      exact ⟨rfl, HA1.out⟩
    · by_cases h3 : cc < 1
      · have h3' := h3
        have hv : v = false := HNO.out (fun h => by have := h.c; dsimp only at this; omega)
        subst hv
        go_wp2_with fail
        go_ret
        exact ⟨rfl, HA1.out⟩
      · by_cases h4 : cc > 1048576
        · have h4' := h4
          have hv : v = false := HNO.out (fun h => by have := h.c; dsimp only at this; omega)
          subst hv
          go_wp2_with fail
          go_ret
          exact ⟨rfl, HA1.out⟩
        · obtain ⟨v1, H1⟩ := bool_of (1 ≤ k.size ∧ k.size ≤ 16)
          obtain ⟨v2, H2⟩ := bool_of (OkL 64 rxs)
          replace H1 := hid H1
          replace H2 := hid H2
          go_wp2_with fail
          clear x0 x1 x2 x3 x4 x5
          refine (keyed_ok w1 k v1 H1.out).mono ?_
          rintro _ wq ⟨rfl, hwq⟩
          rw [hwq]
          clear hwq wq
          dsimp only
          cases v1 with
          | false =>
            have hv : v = false := HNO.out (fun h => by have := H1.out.2 h.k; cases this)
            subst hv
            go_wp2_with fail
            go_ret
            exact ⟨rfl, HA1.out⟩
          | true =>
            obtain ⟨x0, x1, x2, x3, x4, x5⟩ := row6v HX1.out
            go_wp2_with fail
            clear x0 x1 x2 x3 x4 x5
            refine (rSet_ok (c := sx.c) (HXL.out.kept0 HA1.out) v2 H2.out).mono ?_
            rintro _ w2 ⟨rfl, a2⟩
            have HA2 := hid (HA1.out.trans a2)
            have HX2 := hid (keep0 a2 HX1.out)
            clear a2
            dsimp only
            cases v2 with
            | false =>
              have hv : v = false := HNO.out (fun h => by have := H2.out.2 h.x; cases this)
              subst hv
              go_wp2_with fail
              go_ret
              exact ⟨rfl, HA2.out⟩
            | true =>
              obtain ⟨x0, x1, x2, x3, x4, x5⟩ := row6v HX2.out
              by_cases h5 : sv.n > 64
              · have h5i : ((sv.n : Nat) : Int) > 64 := by omega
                have hv : v = false := HNO.out (fun h => by have := h.v; have := mostV_le d; have := HVN.out; dsimp only at *; omega)
                subst hv
                go_wp2_with fail
                go_ret
                exact ⟨rfl, HA2.out⟩
              · have h5i : ¬ ((sv.n : Nat) : Int) > 64 := by omega
                by_cases h6 : d = true ∧ sv.n > 0
                · have h6i : ((sv.n : Nat) : Int) > 0 := by omega
                  have hd := h6.1
                  have hv : v = false := HNO.out (fun h => by have h9 := h.v; have := HVN.out; dsimp only at h9; rw [hd] at h9; simp [mostV] at h9; rw [h9] at this; simp at this; omega)
                  subst hv
                  subst hd
                  go_wp2_with fail
                  go_ret
                  exact ⟨rfl, HA2.out⟩
                · have HMV : Hid (rvs.length ≤ mostV d) := by
                    unfold Hid
                    have := HVN.out
                    cases d with
                    | true => have h0 : ¬ sv.n > 0 := fun h => h6 ⟨rfl, h⟩
                              show rvs.length ≤ 0; omega
                    | false => show rvs.length ≤ 64; omega
                  have HVV : Hid (v = true ↔ hasv rxs n cc = false) := by
                    unfold Hid
                    rw [HV.out]
                    exact ⟨fun h => h.h, fun h => ⟨⟨by dsimp only; omega, by dsimp only; omega⟩, ⟨by dsimp only; omega, by dsimp only; omega⟩, H1.out.1 (by first | rfl | trivial), HMV.out, H2.out.1 (by first | rfl | trivial), h⟩⟩
                  go_upto_region 4 with fail
                  go_cut [53] from 36 to 52 (fun u wx => u = .bool false ∧ wx = w2)
                  · cases d with
                    | true =>
                      have h0 : ¬ sv.n > 0 := fun h => h6 ⟨rfl, h⟩
                      have h0i : ¬ ((sv.n : Nat) : Int) > 0 := by omega
                      go_wp2_with fail
                      go_meet
                      exact ⟨by first | rfl | simp, rfl⟩
                    | false =>
                      go_wp2_with fail
                      go_meet
                      exact ⟨rfl, rfl⟩
                  · obtain ⟨rfl, hwc⟩ := hcut
                    rw [hwc]
                    clear hwc x0 x1 x2 x3 x4 x5
                    have HN : Hid (rxs.length = sx.n) := HXL.out.len
                    have HLM : Hid (sx.n ≤ 9223372036854775807) := HXL.out.lim
                    have hlm := HLM.out
                    go_wp2_with fail
                    go_loopw [4, 5] (fun u _ wt => ∃ i : Nat, u = .int .i64 (i : Nat) ∧ i ≤ sx.n ∧ Apart [] w wt ∧ wt.heap[X]? = some (.cells #[.int .i64 n, .int .i64 cc, .string k, .bool d, .slice sv.p sv.n sv.c, .slice sx.p sx.n sx.c] 50 (0, 0)) ∧ ∀ j, j < i → dotS (ds.g rxs j) n.toNat cc.toNat = false) (fun u _ _ => sx.n - (intOf u).toNat)
                    case atStart => exact ⟨0, rfl, Nat.zero_le _, HA2.out, HX2.out, fun j hj => absurd hj (by omega)⟩
                    case round =>
                      obtain ⟨i, rfl, hi, ha, hX, hp⟩ := hrel
                      have HA := hid ha
                      have HXr := hid hX
                      have HP := hid hp
                      clear ha hX hp
                      by_cases hlt : i < sx.n
                      · have hlti : ((i : Nat) : Int) < (sx.n : Int) := by omega
                        obtain ⟨x0, x1, x2, x3, x4, x5⟩ := row6v HXr.out
                        go_upto_region 9 with fail
                        clear x0 x1 x2 x3 x4 x5
                        have hil : i < rxs.length := by have := HN.out; omega
                        obtain ⟨a, Ha⟩ : ∃ a, Hid (a = ds.g rxs i) := ⟨_, rfl⟩
                        have hoa : Ok 64 a := by rw [Ha.out]; exact (H2.out.1 (by first | rfl | trivial)).ok _ (g_mem hil)
                        obtain ⟨P, o, hP, -, -⟩ := HXL.out.sp (by omega)
                        have HC : Hid (∀ W, Apart [] w W → W.cell? ⟨P, o + i * 3, none⟩ = some (.int .i64 a.n) ∧ W.cell? ⟨P, o + i * 3 + 1, none⟩ = some (.int .i64 a.b) ∧ W.cell? ⟨P, o + i * 3 + 2, none⟩ = some (.int .u64 (a.t : Int))) := fun W aw => by
                          obtain ⟨P', o', hP', _, hc⟩ := (HXL.out.kept0 aw).sp (by omega)
                          rw [hP] at hP'
                          simp only [Option.some.injEq, Addr.mk.injEq] at hP'
                          obtain ⟨rfl, rfl, -⟩ := hP'
                          rw [Ha.out]; exact hc i hil
                        have HPS := hid hP
                        clear hP
                        obtain ⟨b2, Hb2⟩ := bool_of (a.n = n ∧ 1 ≤ cc ∧ dot a cc = true)
                        replace Hb2 := hid Hb2
                        have HH := fun W => hid (rHas_ok W a n cc (ok_lt hoa) ⟨hoa.b0, hoa.bM⟩ (by omega) b2 Hb2.out)
                        have HDS : Hid (dotS a n.toNat cc.toNat = b2) := by
                          unfold Hid dotS
                          have hn0 : ((n.toNat : Nat) : Int) = n := by omega
                          have hc0 : ((cc.toNat : Nat) : Int) = cc := by omega
                          rw [hn0, hc0, decide_eq_true (show 1 ≤ cc.toNat by omega), Bool.and_true]
                          cases hb : b2 with
                          | true => have h := Hb2.out.1 hb; simp [h.1, h.2.2]
                          | false =>
                            by_cases hq : a.n = n
                            · cases hd : dot a cc with
                              | false => simp
                              | true => have := Hb2.out.2 ⟨hq, by omega, hd⟩; rw [hb] at this; cases this
                            · simp [hq]
                        have HAd := hid (HA.out.trans (Apart.refl [] wr).drew)
                        have HXd : Hid (wr.drew.heap[X]? = some (.cells #[.int .i64 n, .int .i64 cc, .string k, .bool d, .slice sv.p sv.n sv.c, .slice sx.p sx.n sx.c] 50 (0, 0))) := HXr.out
                        refine wp_region_held_drew (S := fun W => Apart [] w W ∧ W.heap[X]? = some (.cells #[.int .i64 n, .int .i64 cc, .string k, .bool d, .slice sv.p sv.n sv.c, .slice sx.p sx.n sx.c] 50 (0, 0))) (by kernel_rfl) ⟨HAd.out, HXd.out⟩ (fun hHeld => ?_)
                        generalize wr.drew = wd at *
                        refine tk 0 61 (.pointer (some ⟨X, 5, none⟩)) rfl ?_ ?_
                        · intro W hSW; go_simp
                        simp only [Act.put, List.setIfInBounds_toArray, List.set_cons_zero, List.set_cons_succ]
                        refine tk 1 62 (.slice sx.p sx.n sx.c) rfl ?_ ?_
                        · intro W hSW; obtain ⟨x0, x1, x2, x3, x4, x5⟩ := row6v hSW.2; go_simp
                        simp only [Act.put, List.setIfInBounds_toArray, List.set_cons_zero, List.set_cons_succ]
                        refine tk 2 63 (.int .i64 (i : Nat)) rfl ?_ ?_
                        · intro W hSW; go_simp
                        simp only [Act.put, List.setIfInBounds_toArray, List.set_cons_zero, List.set_cons_succ]
                        refine tk 3 64 (.pointer (some ⟨P, o + i * 3, none⟩)) rfl ?_ ?_
                        · intro W hSW; have h1 := hlti; have hq := HPS.out; go_simp
                        simp only [Act.put, List.setIfInBounds_toArray, List.set_cons_zero, List.set_cons_succ]
                        refine tk 4 65 (.agg #[.int .i64 a.n, .int .i64 a.b, .int .u64 (a.t : Int)]) rfl ?_ ?_
                        · intro W hSW; obtain ⟨z0, z1, z2⟩ := HC.out W hSW.1; go_simp
                        simp only [Act.put, List.setIfInBounds_toArray, List.set_cons_zero, List.set_cons_succ]
                        refine tk 5 66 (.pointer (some ⟨X, 0, none⟩)) rfl ?_ ?_
                        · intro W hSW; go_simp
                        simp only [Act.put, List.setIfInBounds_toArray, List.set_cons_zero, List.set_cons_succ]
                        refine tk 6 67 (.agg #[.int .i64 n, .int .i64 cc]) rfl ?_ ?_
                        · intro W hSW; obtain ⟨x0, x1, x2, x3, x4, x5⟩ := row6v hSW.2; go_simp
                        simp only [Act.put, List.setIfInBounds_toArray, List.set_cons_zero, List.set_cons_succ]
                        refine wpAnyH_ready (rs := [7]) (by kernel_rfl) (by simp) ?_
                        refine AllReadyH.cons rfl (fun KK hKK => ?_) AllReadyH.nil
                        go_simp
                        refine (HH wd).out.mono ?_
                        rintro _ w7 ⟨rfl, a7⟩
                        have HA7 := hid (HAd.out.trans a7)
                        have HX7 := hid (keep0 a7 HXd.out)
                        clear a7 HH
                        dsimp only
                        refine hKK.out _ _ ⟨HA7.out, HX7.out⟩ (fun hHeld => ?_)
                        clear hKK KK
                        refine tk 8 5 (.bool b2) rfl ?_ ?_
                        · intro W hSW; go_simp
                        simp only [Act.put, List.setIfInBounds_toArray, List.set_cons_zero, List.set_cons_succ]
                        refine wpAnyH_done (by kernel_rfl) ?_ _
                        clear hHeld
                        cases b2 with
                        | true =>
                          have hv : v = false := by
                            cases hvv : v with
                            | false => rfl
                            | true =>
                              have h := HVV.out.1 hvv
                              have hn0 : n = ((n.toNat : Nat) : Int) := by omega
                              have hc0 : cc = ((cc.toNat : Nat) : Int) := by omega
                              rw [hn0, hc0] at h
                              have := (hasv_iff (H2.out.1 (by first | rfl | trivial)) (by omega) (by omega)).1 h a (by rw [Ha.out]; exact g_mem hil)
                              rw [HDS.out] at this; cases this
                          subst hv
                          go_wp2_with fail
                          go_ret
                          exact ⟨rfl, HA7.out⟩
                        | false =>
                          go_wp2_with fail
                          go_roundw
                          case rel => exact ⟨i + 1, by go_num, by omega, HA7.out, HX7.out, fun j hj => by
                            by_cases hji : j < i
                            · exact HP.out j hji
                            · have : j = i := by omega
                              subst this
                              rw [← Ha.out]; exact HDS.out⟩
                          case measure => simp [intOf]; omega
                      · have hlti : ¬ ((i : Nat) : Int) < (sx.n : Int) := by omega
                        have hv : v = true := HVV.out.2 (by
                          have hn0 : n = ((n.toNat : Nat) : Int) := by omega
                          have hc0 : cc = ((cc.toNat : Nat) : Int) := by omega
                          rw [hn0, hc0]
                          refine (hasv_iff (H2.out.1 (by first | rfl | trivial)) (by omega) (by omega)).2 (fun y hy => ?_)
                          obtain ⟨j, hj, rfl⟩ := List.getElem_of_mem hy
                          have := HP.out j (by have := HN.out; omega)
                          unfold ds.g at this
                          rw [List.getD_eq_getElem?_getD, List.getElem?_eq_getElem hj] at this
                          exact this)
                        subst hv
                        obtain ⟨x0, x1, x2, x3, x4, x5⟩ := row6v HXr.out
                        go_wp2_with fail
                        go_ret
                        exact ⟨rfl, HA.out⟩
end Go.Proofs.Ytllhmidpphlbhaa.ds
namespace Go.Proofs.Ytllhmidpphlbhaa.ds
open Go.ChangeShapes Go.WideShapes Go.ChangeAt Go.RowKit Go.Sort
set_option linter.unusedVariables false
set_option linter.unusedSimpArgs false

/-- what the document's building answers -/
structure RO (w w' : World) (q : Ending) (e : Int) (c : Pc) : Prop where
  a : Apart [] w w'
  no : e ≠ 0 → q = .returned (.tuple #[.slice none 0 0, .int .i64 e])
  ok : e = 0 → ∃ s : Sl, q = .returned (.tuple #[.slice s.p s.n s.c, .int .i64 0]) ∧ Bf w w' s (pad (encPc c))
theorem Bf.made (w : World) (x : Nat) : Bf w (w.alloc (.cells #[.int .u8 (x : Int)] 5)) ⟨some ⟨w.heap.size, 0, none⟩, 1, 1⟩ [x] :=
  ⟨⟨⟨rfl, .inr ⟨w.heap.size, 1, #[.int .u8 (x : Int)], rfl, Nat.zero_le _, heap_alloc_new w _, Nat.le_refl _, by decide, rfl, rfl⟩⟩, fun k hk => by simp [Sl.v, Value.ownBlock] at hk; omega, (Apart.refl [] w).alloc _⟩, rfl⟩
theorem Bf.base {wB w0 w : World} {s : Sl} {us : List Nat} (h : Bf w0 w s us) (a : Apart [] wB w0) : Bf wB w s us := ⟨⟨h.nw.own, fun k hk => Nat.le_trans a.size (h.nw.new k hk), a.trans h.nw.ap⟩, h.len⟩
set_option maxHeartbeats 8000000 in
set_option maxRecDepth 100000 in
theorem rbuildHint_ok {w : World} (ow : Int) (e : E) (r : Wr) (hr : Reads w e r) : Calls Try.prog 62 #[.agg #[.int .i64 ow, .int .i64 e.n, .int .i64 e.c, .string e.k, .bool e.d, .slice e.v.p e.v.n e.v.c, .slice e.x.p e.x.n e.x.c]] w fun q w' => RO w w' q (eHint ow r) (pcH ow r) := by
  have HR := hid hr
  have HK : Hid (e.k = r.k) := hr.k
  obtain ⟨X, HXX⟩ : ∃ X, Hid (X = w.heap.size) := ⟨_, rfl⟩
  obtain ⟨w1, hw1⟩ : ∃ W, W = w.alloc (.cells #[.int .i64 ow, .int .i64 e.n, .int .i64 e.c, .string e.k, .bool e.d, .slice e.v.p e.v.n e.v.c, .slice e.x.p e.x.n e.x.c] 93) := ⟨_, rfl⟩
  have HX1 : Hid (w1.heap[X]? = some (.cells #[.int .i64 ow, .int .i64 e.n, .int .i64 e.c, .string e.k, .bool e.d, .slice e.v.p e.v.n e.v.c, .slice e.x.p e.x.n e.x.c] 93 (0, 0))) := by unfold Hid; rw [HXX.out, hw1]; exact heap_alloc_new w _
  have HA1 : Hid (Apart [] w w1) := by unfold Hid; rw [hw1]; exact (Apart.refl [] w).alloc _
  obtain ⟨er, Her⟩ : ∃ er, Hid (er = eHint ow r) := ⟨_, rfl⟩
  have HE1 : Hid (¬ (0 ≤ ow ∧ ow ≤ 7) → er = 4) := fun h => by rw [Her.out]; unfold eHint; rw [if_neg h]
  have HE2 : Hid ((0 ≤ ow ∧ ow ≤ 7) → ¬ (1 ≤ e.k.size ∧ e.k.size ≤ 16) → er = 50) := fun h k => by rw [HK.out] at k; rw [Her.out]; unfold eHint; rw [if_pos h, if_neg k]
  have HE3 : Hid ((0 ≤ ow ∧ ow ≤ 7) → (1 ≤ e.k.size ∧ e.k.size ≤ 16) → ¬ Stor r → er = 52) := fun h k m => by rw [HK.out] at k; rw [Her.out]; unfold eHint; rw [if_pos h, if_pos k, if_neg m]
  have HE4 : Hid ((0 ≤ ow ∧ ow ≤ 7) → (1 ≤ e.k.size ∧ e.k.size ≤ 16) → Stor r → er = 0) := fun h k m => by rw [HK.out] at k; rw [Her.out]; unfold eHint; rw [if_pos h, if_pos k, if_pos m]
  clear hr
  rw [← Her.out]
  go_enter Try.func62, Try.ntmps62
  go_upto_region 1 with fail
  rw [← hw1, ← HXX.out]
  clear hw1 HXX
  obtain ⟨⟨x0, x1, x2, x3⟩, x4, x5, x6⟩ := row7v HX1.out
  by_cases h1 : ow < 0
  · have he := HE1.out (by omega)
    subst he
    go_wp2_with fail
    go_ret2
    exact ⟨HA1.out, fun _ => rfl, fun h => absurd h (by decide)⟩
  · by_cases h2 : ow ≥ 8
    · have he := HE1.out (by omega)
      subst he
      go_wp2_with fail
      go_ret2
      exact ⟨HA1.out, fun _ => rfl, fun h => absurd h (by decide)⟩
    · have h12 : 0 ≤ ow ∧ ow ≤ 7 := by omega
      obtain ⟨v1, H1⟩ := bool_of (1 ≤ e.k.size ∧ e.k.size ≤ 16)
      replace H1 := hid H1
      obtain ⟨v2, H2⟩ := bool_of (Stor r)
      replace H2 := hid H2
      go_wp2_with fail
      clear x0 x1 x2 x3 x4 x5 x6
      refine (keyed_ok w1 e.k v1 H1.out).mono ?_
      rintro _ wq ⟨rfl, hwq⟩
      rw [hwq]
      clear hwq wq
      dsimp only
      cases v1 with
      | false =>
        have he := HE2.out h12 (fun h => by have := H1.out.2 h; cases this)
        subst he
        go_wp2_with fail
        go_ret2
        exact ⟨HA1.out, fun _ => rfl, fun h => absurd h (by decide)⟩
      | true =>
        have hk := H1.out.1 rfl
        obtain ⟨⟨x0, x1, x2, x3⟩, x4, x5, x6⟩ := row7v HX1.out
        go_wp2_with fail
        clear x0 x1 x2 x3 x4 x5 x6
        refine (rStor_ok e r (HR.out.kept0 HA1.out) v2 H2.out).mono ?_
        rintro _ w2 ⟨rfl, a2⟩
        have HA2 := hid (HA1.out.trans a2)
        have HX2 := hid (keep0 a2 HX1.out)
        clear a2
        dsimp only
        cases v2 with
        | false =>
          have he := HE3.out h12 hk (fun h => by have := H2.out.2 h; cases this)
          subst he
          go_wp2_with fail
          go_ret2
          exact ⟨HA2.out, fun _ => rfl, fun h => absurd h (by decide)⟩
        | true =>
          have hst := H2.out.1 rfl
          have he := HE4.out h12 hk hst
          subst he
          obtain ⟨on, hon⟩ := Int.eq_ofNat_of_zero_le h12.1
          subst hon
          have HST := hid hst
          have HKL := hid hk
          have HB2 : Hid (Bf w (w2.alloc (.cells #[.int .u8 ((3 : Nat) : Int)] 5)) ⟨some ⟨w2.heap.size, 0, none⟩, 1, 1⟩ [3]) := (Bf.made w2 3).base HA2.out
          obtain ⟨w3, hw3⟩ : ∃ W, W = w2.alloc (.cells #[.int .u8 3] 5) := ⟨_, rfl⟩
          rw [show ((3 : Nat) : Int) = 3 from rfl, ← hw3] at HB2
          have HX3 : Hid (w3.heap[X]? = some (.cells #[.int .i64 (on : Int), .int .i64 e.n, .int .i64 e.c, .string e.k, .bool e.d, .slice e.v.p e.v.n e.v.c, .slice e.x.p e.x.n e.x.c] 93 (0, 0))) := by unfold Hid; rw [hw3]; exact keep0 ((Apart.refl [] w2).alloc _) HX2.out
          obtain ⟨s2, Hs2⟩ : ∃ s2 : Sl, Hid (s2 = ⟨some ⟨w2.heap.size, 0, none⟩, 1, 1⟩) := ⟨_, rfl⟩
          rw [← Hs2.out] at HB2
          have HC1 := hid (rnum_ok HB2.out on 1 (by omega) (by omega) (by simp))
          rw [Hs2.out] at HC1
          clear hst hk HE1 HE2 HE3 HE4
          obtain ⟨⟨x0, x1, x2, x3⟩, x4, x5, x6⟩ := row7v HX3.out
          rw [hw3] at x0 x1 x2 x3 x4 x5 x6
          go_wp2_with fail
          rw [← hw3]
          clear x0 x1 x2 x3 x4 x5 x6 hw3
          refine HC1.out.mono ?_
          rintro _ w4 ⟨t4, rfl, b4, g4⟩
          have HB4 := hid b4
          have HX4 := hid (g4.block (by rw [← Hs2.out]; exact HB2.out) HX3.out (by decide))
          clear b4 g4 HC1
          dsimp only
          obtain ⟨⟨x0, x1, x2, x3⟩, x4, x5, x6⟩ := row7v HX4.out
          go_wp2_with fail
          clear x0 x1 x2 x3 x4 x5 x6
          generalize hvs4 : [3] ++ encN 1 on = vs4 at *
          have Hvs4 := hid hvs4
          have HL4 : Hid (vs4.length = 2) := by unfold Hid; rw [← hvs4, List.length_append, encN_len]; rfl
          clear hvs4
          refine (rkey_ok HB4.out e.k (by have := HKL.out; omega) (by have := HL4.out; omega)).mono ?_
          rintro _ w5 ⟨t5, rfl, b5, g5⟩
          have HB5 := hid b5
          have HX5 := hid (g5.block HB4.out HX4.out (by decide))
          clear b5 g5
          dsimp only
          have HL5 : Hid ((vs4 ++ (encN 1 (bsk e.k).length ++ bsk e.k)).length ≤ 19) := by unfold Hid; rw [List.length_append, List.length_append, encN_len, bsk_len]; have := HKL.out; have := HL4.out; omega
          generalize hvs5 : vs4 ++ (encN 1 (bsk e.k).length ++ bsk e.k) = vs5 at *
          have Hvs5 := hid hvs5
          clear hvs5
          obtain ⟨⟨x0, x1, x2, x3⟩, x4, x5, x6⟩ := row7v HX5.out
          go_wp2_with fail
          clear x0 x1 x2 x3 x4 x5 x6
          refine (rwr_ok HB5.out e r HR.out HST.out (by have := HL5.out; omega)).mono ?_
          rintro _ w6 ⟨t6, rfl, b6, _⟩
          have HB6 := hid b6
          clear b6
          dsimp only
          have HL6 : Hid ((vs5 ++ encPw (cwOf r)).length ≤ 2048) := by unfold Hid; rw [List.length_append]; have := HST.out.len; have := HL5.out; omega
          generalize hvs6 : vs5 ++ encPw (cwOf r) = vs6 at *
          have Hvs6 := hid hvs6
          clear hvs6
          go_wp2_with fail
          refine (rfilled_ok HB6.out HL6.out).mono ?_
          rintro _ w7 ⟨t7, rfl, b7, _⟩
          have HB7 := hid b7
          clear b7
          dsimp only
          go_wp2_with fail
          go_ret2
          have HEN : Hid (encPc (pcH (on : Int) r) = vs6) := by
            unfold Hid
            rw [← Hvs6.out, ← Hvs5.out, ← Hvs4.out, HK.out]
            unfold pcH encPc encPws encPws
            dsimp only
            rw [Int.toNat_natCast, encN1 (show 3 < 256 by omega), List.append_nil]
            simp only [List.append_assoc]
          exact ⟨HB7.out.nw.ap, fun h => absurd rfl h, fun _ => ⟨t7, rfl, by rw [HEN.out]; exact HB7.out⟩⟩
end Go.Proofs.Ytllhmidpphlbhaa.ds
namespace Go.Proofs.Ytllhmidpphlbhaa.ds
open Go.ChangeShapes Go.WideShapes Go.ChangeAt Go.RowKit Go.Sort
set_option linter.unusedVariables false
set_option linter.unusedSimpArgs false

/-- bytes of a page: by where they begin and how many -/
def tsl (P o : Nat) (t : Nat × Nat) : Value := .slice (some ⟨P, if t.2 = 0 then o else o + t.1, none⟩) t.2 t.2
set_option maxHeartbeats 4000000 in
set_option maxRecDepth 100000 in
theorem text_ok {w : World} {R P o c : Nat} {B : List Nat} {s : Ps} (h : PR w R P o c B s) (lo hi : Nat) (hr : s.bad = false → s.at_ + 1 + hi ≤ 2048) (hlo : lo ≤ 100) (hhi : hi ≤ 100) :
    Calls Try.prog 72 #[.pointer (some ⟨R, 0, none⟩), .int .i64 (lo : Nat), .int .i64 (hi : Nat)] w fun e w' => PO w w' R P o c B e (tsl P o (textR B lo hi s).1) (textR B lo hi s).2 := by
  have HRB := hid h
  have HC1 := hid (number_ok h 1 lo hi ⟨by omega, by omega⟩ (fun hb => by have := hr hb; omega) (by omega) (by omega))
  have h1 := num_at B 1 lo hi s
  have h2 := num_le B 1 lo hi s
  have h3 := num_bd B 1 lo hi s
  obtain ⟨r, Hr⟩ : ∃ r, Hid (r = num B 1 lo hi s) := ⟨_, rfl⟩
  have HT : Hid (textR B lo hi s = ((r.2.at_, r.1), ⟨r.2.at_ + r.1, r.2.bad⟩)) := by unfold Hid textR; rw [Hr.out]
  rw [← Hr.out] at HC1 h1 h2 h3
  obtain ⟨n, q, b⟩ := r
  dsimp only at h1 h2 h3 HT
  have HK : Hid (q + n ≤ 2048 ∧ n ≤ 100) := by
    unfold Hid
    refine ⟨?_, by omega⟩
    have hle := h.le
    cases b with
    | true => have := h3 rfl; have hc := HRB.out.le; cases hb : s.bad with
      | true =>
        have e := num_bad B 1 lo hi hb
        rw [← Hr.out] at e
        simp only [Prod.mk.injEq] at e
        have : (⟨q, true⟩ : Ps).at_ = s.at_ := by rw [e.2]
        dsimp only at this
        omega
      | false => have := hr hb; omega
    | false =>
      have e := (num_ok B 1 lo hi s (by rw [← Hr.out])).1
      have := hr e
      omega
  clear h h1 h2 h3 hr hlo hhi
  go_enter Try.func72, Try.ntmps72
  go_wp2_with fail
  refine HC1.out.mono ?_
  rintro _ w1 ⟨rfl, r1, a1⟩
  have HA1 := hid a1
  have HR1 := hid r1
  clear a1 r1 HC1
  dsimp only
  obtain ⟨z0, z1, z2, z3, z4⟩ := HR1.out.cells
  dsimp only at z1 z2
  obtain ⟨t, Ht⟩ : ∃ t, Hid (t = q + n) := ⟨_, rfl⟩
  have hwq : IntKind.i64.wrap ((q : Int) + (n : Int)) = (t : Int) := by rw [IntKind.wrap_i64, Ht.out]; have := HK.out; omega
  have HR2 := hid (HR1.out.move t (by rw [Ht.out]; exact HK.out.1))
  go_upto_region 4 with fail
  clear z0 z1 z2 z3 z4 hwq
  obtain ⟨w2, Hw2⟩ : ∃ w2, Hid (w2 = w1.setCell ⟨R, 1, none⟩ (.int .i64 (t : Nat))) := ⟨_, rfl⟩
  have HA2 : Hid (Apart [R] w w2) := by unfold Hid; rw [Hw2.out]; exact HA1.out.setCell (.inl (by simp)) _
  rw [← Hw2.out] at HR2 ⊢
  refine wp_region_held_drew (S := fun W => Apart [] w2 W) (by kernel_rfl) (Apart.refl [] w2).drew (fun hHeld => ?_)
  have Twd : Hid (Apart [] w2 w2.drew) := (Apart.refl [] w2).drew
  have HC : Hid (∀ W, Apart [] w2 W → W.cell? ⟨R, 0, none⟩ = some (.slice (some ⟨P, o, none⟩) 2048 c) ∧ W.cell? ⟨R, 1, none⟩ = some (.int .i64 (t : Nat))) := fun W a => by
    have := (HR2.out.kept0 a).cells
    exact ⟨this.1, this.2.1⟩
  generalize w2.drew = wd at *
  refine tk 0 25 (.pointer (some ⟨R, 0, none⟩)) rfl ?_ ?_
  · intro W hSW; go_simp
  simp only [Act.put, List.setIfInBounds_toArray, List.set_cons_zero, List.set_cons_succ]
  refine tk 1 26 (.pointer (some ⟨R, 0, none⟩)) rfl ?_ ?_
  · intro W hSW; go_simp
  simp only [Act.put, List.setIfInBounds_toArray, List.set_cons_zero, List.set_cons_succ]
  refine tk 2 27 (.pointer (some ⟨R, 0, none⟩)) rfl ?_ ?_
  · intro W hSW; go_simp
  simp only [Act.put, List.setIfInBounds_toArray, List.set_cons_zero, List.set_cons_succ]
  refine tk 3 28 (.slice (some ⟨P, o, none⟩) 2048 c) rfl ?_ ?_
  · intro W hSW; obtain ⟨z0, z1⟩ := HC.out W hSW; go_simp
  simp only [Act.put, List.setIfInBounds_toArray, List.set_cons_zero, List.set_cons_succ]
  refine tk 4 29 (.int .i64 (q : Nat)) rfl ?_ ?_
  · intro W hSW; go_simp
  simp only [Act.put, List.setIfInBounds_toArray, List.set_cons_zero, List.set_cons_succ]
  refine tk 5 30 (.pointer (some ⟨R, 0, none⟩)) rfl ?_ ?_
  · intro W hSW; go_simp
  simp only [Act.put, List.setIfInBounds_toArray, List.set_cons_zero, List.set_cons_succ]
  refine tk 6 31 (.pointer (some ⟨R, 0, none⟩)) rfl ?_ ?_
  · intro W hSW; go_simp
  simp only [Act.put, List.setIfInBounds_toArray, List.set_cons_zero, List.set_cons_succ]
  refine tk 7 32 (.pointer (some ⟨R, 1, none⟩)) rfl ?_ ?_
  · intro W hSW; go_simp
  simp only [Act.put, List.setIfInBounds_toArray, List.set_cons_zero, List.set_cons_succ]
  refine tk 8 33 (.int .i64 (t : Nat)) rfl ?_ ?_
  · intro W hSW; obtain ⟨z0, z1⟩ := HC.out W hSW; go_simp
  simp only [Act.put, List.setIfInBounds_toArray, List.set_cons_zero, List.set_cons_succ]
  refine tk 9 34 (.pointer (some ⟨R, 0, none⟩)) rfl ?_ ?_
  · intro W hSW; go_simp
  simp only [Act.put, List.setIfInBounds_toArray, List.set_cons_zero, List.set_cons_succ]
  refine tk 10 35 (.pointer (some ⟨R, 0, none⟩)) rfl ?_ ?_
  · intro W hSW; go_simp
  simp only [Act.put, List.setIfInBounds_toArray, List.set_cons_zero, List.set_cons_succ]
  refine tk 11 36 (.pointer (some ⟨R, 1, none⟩)) rfl ?_ ?_
  · intro W hSW; go_simp
  simp only [Act.put, List.setIfInBounds_toArray, List.set_cons_zero, List.set_cons_succ]
  refine tk 12 37 (.int .i64 (t : Nat)) rfl ?_ ?_
  · intro W hSW; obtain ⟨z0, z1⟩ := HC.out W hSW; go_simp
  simp only [Act.put, List.setIfInBounds_toArray, List.set_cons_zero, List.set_cons_succ]
  refine wpAnyH_ready (rs := [13]) (by kernel_rfl) (by simp) ?_
  refine AllReadyH.cons rfl (fun KK hKK => ?_) AllReadyH.nil
  have l1 := HK.out.1
  have l4 := HR2.out.cap
  have htc : t ≤ c := by rw [Ht.out]; omega
  have hqt : q ≤ t := by rw [Ht.out]; omega
  have htn : t - q = n := by rw [Ht.out]; omega
  go_simp
  obtain ⟨v, Hv⟩ : ∃ v, Hid (v = tsl P o (q, n)) := ⟨_, rfl⟩
  have hif : Value.slice (if t = q then some (⟨P, o, none⟩ : Addr) else some ⟨P, o + q, none⟩) n n = v := by
    rw [Hv.out]
    unfold tsl
    dsimp only
    by_cases h0 : n = 0
    · rw [if_pos (by rw [Ht.out, h0]; rfl), if_pos h0]
    · rw [if_neg (by rw [Ht.out]; omega), if_neg h0]
  rw [hif]
  refine hKK.out _ _ Twd.out (fun hHeld => ?_)
  clear hKK KK
  refine tk 14 6 v rfl ?_ ?_
  · intro W hSW; go_simp
  simp only [Act.put, List.setIfInBounds_toArray, List.set_cons_zero, List.set_cons_succ]
  refine wpAnyH_done (by kernel_rfl) ?_ _
  clear hHeld
  go_wp2_with fail
  go_ret
  rw [HT.out]
  exact ⟨by rw [Hv.out]; rfl, by rw [← Ht.out]; exact HR2.out.kept0 Twd.out, HA2.out.trans (Twd.out.mono (by simp))⟩
end Go.Proofs.Ytllhmidpphlbhaa.ds
