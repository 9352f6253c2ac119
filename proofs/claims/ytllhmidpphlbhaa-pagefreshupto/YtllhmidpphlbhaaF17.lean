import Derived.Deep.RegionHeld
import Derived.OrdersHeld
import Derived.WalkKit
import Derived.ProofKit
import Derived.Lib.TrailingZeros
import Derived.Test.YtllhmidpphlbhaaChecked
import Derived.OpenShut
import Derived.Deep.QuietTactic
import Derived.BigQuiet
import Derived.BigRegion
import Derived.Laws.CopyOwn
import Derived.Laws.Bits64b
import Derived.Laws.MathBits
import Derived.Laws.ShiftsVarLaws
import Derived.WalkSmall
import Derived.Laws.ResultCell
import Derived.Lib.BitFns
import Derived.Laws.StructEq
import Derived.ArgAppend
import Derived.Deep.RegionLaw
import Derived.Deep.DeepAppendRoom
import Derived.Sort.WalkA
import Derived.Laws.Strings
import Derived.Deep.CutBlock
import Derived.Great.BuildSlice
import Derived.Laws.AppendOwnNone
import Derived.Lib.Overlaps
import Derived.Lib.AppendZerosOnto
import Derived.Laws.NewBlocks
import Derived.Laws.Externs
import Derived.Laws.IdiomCopy
import Derived.Laws.BytesString
import Derived.Deep.CutRange
import Derived.RangeFuncNested
import Derived.RangeFuncBound
import Derived.RangeFuncCalls
import Derived.RangeFuncLeaves
import Derived.Shelf.Abstract
import Derived.Shelf.RegionOpen
import Derived.OwnWalkIn
import Derived.TacticsInMore
import Derived.LoopNIn
import Derived.LoopIn
import GoSem.Claim
import GoSem.ClaimJoined
import GoSem.ClaimMapViews
import Derived.JoinedTies
import Derived.KernelRfl
import Derived.Deep.OwnRows
import Derived.Lib.LaidTab
import Derived.JoinedCond
import Derived.ShutString
import Derived.ChangeOld
import Derived.Below
import Derived.Carry
import Derived.ChangeSlices
import Derived.Deep.Slices
import Derived.Deep.DeepHandedRow
import Derived.RowKit
import Derived.ChangeShapes
import Derived.SizedLaws
import Derived.ChangeMaps5
import Derived.Lib.Walk
import Derived.Lib.SliceRun
import Derived.Lib.AppendStr
import Derived.Lib.ConvBytes
import Derived.Deep.RegionHeld3
import Derived.Deep.MidRow
import Derived.Laws.MakeOwn
import Derived.Lib.SlBytesConst
import Derived.Test.YtllhmidpphlbhaaRows
import Derived.Test.YtllhmidpphlbhaaF16
namespace Go.Proofs.Ytllhmidpphlbhaa.ds
open Go.ChangeShapes Go.WideShapes Go.ChangeAt Go.RowKit Go.Sort
set_option linter.unusedVariables false
set_option linter.unusedSimpArgs false

theorem flatE_len : ∀ (es : List E), (flatE es).length = es.length * 6
  | [] => rfl
  | e :: l => by
    have := flatE_len l
    rw [show flatE (e :: l) = E.cs e ++ flatE l from rfl, List.length_append, this, List.length_cons, show (E.cs e).length = 6 from rfl]; omega
theorem flatE_get : ∀ (es : List E) (j : Nat), j < es.length → ∀ i v, (E.cs (gE es j))[i]? = some v → (flatE es)[j * 6 + i]? = some v
  | [], j, h, i, v, hv => by simp at h
  | e :: l, 0, h, i, v, hv => by
    rw [show flatE (e :: l) = E.cs e ++ flatE l from rfl]
    have hi : i < (E.cs e).length := by
      by_cases hc : i < (E.cs e).length
      · exact hc
      · have : (E.cs (gE (e :: l) 0)) = E.cs e := rfl
        rw [this, List.getElem?_eq_none (by omega)] at hv; cases hv
    rw [Nat.zero_mul, Nat.zero_add, List.getElem?_append_left hi]
    exact hv
  | e :: l, j + 1, h, i, v, hv => by
    rw [show flatE (e :: l) = E.cs e ++ flatE l from rfl, List.getElem?_append_right (by simp [E.cs]; omega), show (E.cs e).length = 6 from rfl, show (j + 1) * 6 + i - 6 = j * 6 + i from by omega]
    exact flatE_get l j (by simp at h; omega) i v hv
/-- a list of writes that can be read -/
structure RWs (w : World) (s : Sl) (es : List E) (rs : List Wr) : Prop where
  rd : Rd w s.p (flatE es)
  el : es.length = s.n
  rl : rs.length = s.n
  each : ∀ j, j < s.n → Reads w (gE es j) (gR rs j)
  lim : s.n ≤ 2000000
  ok : s.ok
theorem RWs.kept0 {w w' : World} {s : Sl} {es : List E} {rs : List Wr} (h : RWs w s es rs) (a : Apart [] w w') : RWs w' s es rs := { h with rd := h.rd.kept0 a, each := fun j hj => (h.each j hj).kept0 a }
theorem RWs.cells {w : World} {s : Sl} {es : List E} {rs : List Wr} (h : RWs w s es rs) (j : Nat) (hj : j < s.n) : ∃ P o, s.p = some ⟨P, o, none⟩ ∧ P < w.heap.size ∧ (w.cell? ⟨P, o + j * 6, none⟩ = some (.int .i64 (gE es j).n) ∧ w.cell? ⟨P, o + j * 6 + 1, none⟩ = some (.int .i64 (gE es j).c) ∧ w.cell? ⟨P, o + j * 6 + 2, none⟩ = some (.string (gE es j).k) ∧ w.cell? ⟨P, o + j * 6 + 3, none⟩ = some (.bool (gE es j).d) ∧ w.cell? ⟨P, o + j * 6 + 4, none⟩ = some (.slice (gE es j).v.p (gE es j).v.n (gE es j).v.c) ∧ w.cell? ⟨P, o + j * 6 + 5, none⟩ = some (.slice (gE es j).x.p (gE es j).x.n (gE es j).x.c)) := by
  have hel := h.el
  obtain ⟨P, o, e, hP, hc⟩ := h.rd (by rw [flatE_len]; omega)
  have key : ∀ i v, (E.cs (gE es j))[i]? = some v → w.cell? ⟨P, o + j * 6 + i, none⟩ = some v := fun i v hv => by
    have := hc (j * 6 + i) v (flatE_get es j (by omega) i v hv)
    rwa [← Nat.add_assoc] at this
  exact ⟨P, o, e, hP, by simpa using key 0 _ rfl, key 1 _ rfl, key 2 _ rfl, key 3 _ rfl, key 4 _ rfl, key 5 _ rfl⟩
theorem dropR_g {rs : List Wr} {i : Nat} (hi : i < rs.length) : rs.drop i = gR rs i :: rs.drop (i + 1) := by
  rw [List.drop_eq_getElem_cons hi]
  unfold gR
  rw [List.getD_eq_getElem?_getD, List.getElem?_eq_getElem hi]; rfl
theorem eKeys_cons (k : ByteArray) (an ac : Int) (r : Wr) (l : List Wr) : (r.k ≠ k → eKeys k an ac (r :: l) = 50) ∧ (r.k = k → ¬ Stor r → eKeys k an ac (r :: l) = 52) ∧ (r.k = k → Stor r → ¬ (an ≤ r.n ∧ leastI an ac r.n ≤ r.c) → eKeys k an ac (r :: l) = 1) ∧ (r.k = k → Stor r → (an ≤ r.n ∧ leastI an ac r.n ≤ r.c) → eKeys k an ac (r :: l) = eKeys k r.n r.c l) := by
  rw [eKeys]
  exact ⟨fun h => if_neg h, fun h k => by rw [if_pos h, if_neg k], fun h k m => by rw [if_pos h, if_pos k, if_neg m], fun h k m => by rw [if_pos h, if_pos k, if_pos m]⟩
/-- the walk over siblings -/
structure KI (w wt : World) (rs : List Wr) (k : ByteArray) (A : Nat) (i : Nat) (an ac : Int) : Prop where
  a : Apart [] w wt
  b : wt.heap[A]? = some (.cells #[.int .i64 an, .int .i64 ac] 47 (0, 0))
  e : eKeys k 0 0 rs = eKeys k an ac (rs.drop i)
  l : (0 ≤ an ∧ an ≤ 7) ∧ 0 ≤ ac ∧ ac ≤ 1048576
set_option maxHeartbeats 8000000 in
set_option maxRecDepth 100000 in
theorem lookK_ok {w : World} (s : Sl) (es : List E) (rs : List Wr) (h : RWs w s es rs) : Calls Try.prog 70 #[.slice s.p s.n s.c] w fun q w' => q = .returned (.int .i64 (eKey rs)) ∧ Apart [] w w' := by
  have HC := hid h
  have hlim := h.lim
  have hrl := h.rl
  clear h
  by_cases h0 : s.n = 0
  · have h0i : ((s.n : Nat) : Int) = 0 := by omega
    have HE : Hid (eKey rs = 1) := by
      unfold Hid
      have : rs = [] := List.length_eq_zero_iff.1 (by omega)
      rw [this]; rfl
    go_enter Try.func70, Try.ntmps70
    go_wp2_with fail
    go_ret
    exact ⟨by rw [HE.out]; rfl, Apart.refl _ _⟩
  · have h0i : ¬ ((s.n : Nat) : Int) = 0 := by omega
    obtain ⟨k0, Hk0⟩ : ∃ k0, Hid (k0 = (gE es 0).k) := ⟨_, rfl⟩
    have HEK : Hid (eKey rs = if s.n ≤ 8 then (if 1 ≤ k0.size ∧ k0.size ≤ 16 then eKeys k0 0 0 rs else 50) else 71) := by
      unfold Hid
      have hk := (HC.out.each 0 (by omega)).k
      cases rs with
      | nil => simp at hrl; omega
      | cons r l =>
        have e1 : (gR (r :: l) 0).k = r.k := rfl
        show eKey1 r l = _
        unfold eKey1
        rw [Hk0.out, hk, e1, hrl]
    by_cases h8 : s.n ≤ 8
    · have h8i : ¬ ((s.n : Nat) : Int) > 8 := by omega
      obtain ⟨P, o, hP, hPl, -, -, c2, -, -, -⟩ := HC.out.cells 0 (by omega)
      rw [← Hk0.out] at c2
      have c2' : w.cell? ⟨P, o + 2, none⟩ = some (.string k0) := by simpa using c2
      have HK0 : Hid (∀ W, Apart [] w W → W.cell? ⟨P, o + 2, none⟩ = some (.string k0)) := fun W a => (a.cell (p := ⟨P, o + 2, none⟩) hPl (by simp)).trans c2'
      have HPS : Hid (s.p = some ⟨P, o, none⟩) := hP
      obtain ⟨sp, sn, sc⟩ := s
      dsimp only at *
      subst hP
      go_enter Try.func70, Try.ntmps70
      go_wp2_with fail
      clear c2 c2'
      obtain ⟨v1, H1⟩ := bool_of (1 ≤ k0.size ∧ k0.size ≤ 16)
      replace H1 := hid H1
      refine (isKey_ok w k0 v1 H1.out).mono ?_
      rintro _ w1 ⟨rfl, a1⟩
      have HA1 := hid a1
      clear a1
      dsimp only
      cases v1 with
      | false =>
        have HE : Hid (eKey rs = 50) := by unfold Hid; rw [HEK.out, if_pos h8, if_neg (fun hh => by have := H1.out.2 hh; cases this)]
        go_wp2_with fail
        go_ret
        exact ⟨by rw [HE.out]; rfl, HA1.out⟩
      | true =>
        have HE : Hid (eKey rs = eKeys k0 0 0 rs) := by unfold Hid; rw [HEK.out, if_pos h8, if_pos (H1.out.1 rfl)]
        obtain ⟨A, HXA⟩ : ∃ X, Hid (X = w1.heap.size) := ⟨_, rfl⟩
        obtain ⟨w2, hw2⟩ : ∃ W, W = w1.alloc (.cells #[.int .i64 0, .int .i64 0] 47) := ⟨_, rfl⟩
        have HS2 : Hid (Apart [] w1 w2) := by unfold Hid; rw [hw2]; exact (Apart.refl [] w1).alloc _
        have HI : Hid (KI w w2 rs k0 A 0 0 0) := ⟨HA1.out.trans HS2.out, by rw [HXA.out, hw2]; exact heap_alloc_new w1 _, rfl, by omega, by omega, by omega⟩
        have HLA : Hid (w.heap.size ≤ A) := by unfold Hid; rw [HXA.out]; exact HA1.out.size
        go_upto_region 8 with fail
        rw [← hw2, ← HXA.out]
        clear hw2 HXA HS2
        go_wp2_with fail
        go_loopw [5, 20] (fun _ b wt => ∃ (i : Nat) (an ac : Int), b = .int .i64 (i : Nat) ∧ i ≤ sn ∧ KI w wt rs k0 A i an ac) (fun _ b _ => sn - (intOf b).toNat)
        case atStart => exact ⟨0, 0, 0, rfl, Nat.zero_le _, HI.out⟩
        case round =>
          obtain ⟨i, an, ac, rfl, hi, hI⟩ := hrel
          have HJ := hid hI
          clear hI HI
          by_cases hlt : i < sn
          · have hlti : ((i : Nat) : Int) < (sn : Int) := by omega
            have HCr := hid (HC.out.kept0 HJ.out.a)
            obtain ⟨P', o', hP', hPl', c0, c1, c2, c3, c4, c5⟩ := HCr.out.cells i hlt
            dsimp only at hP'
            simp only [Option.some.injEq, Addr.mk.injEq] at hP'
            obtain ⟨rfl, rfl, -⟩ := hP'
            have HRe := hid (HC.out.each i hlt)
            have HEC := hid (eKeys_cons k0 an ac (gR rs i) (rs.drop (i + 1)))
            rw [← dropR_g (by omega), ← HJ.out.e] at HEC
            generalize gE es i = e at *
            generalize gR rs i = r at *
            have hek : e.k = r.k := HRe.out.k
            have hen : e.n = r.n := HRe.out.n
            have hec : e.c = r.c := HRe.out.c
            rw [← hek, ← hen, ← hec] at HEC
            clear hek hen hec
            obtain ⟨X, HXX⟩ : ∃ X, Hid (X = wr.heap.size) := ⟨_, rfl⟩
            obtain ⟨w3, hw3⟩ : ∃ W, W = wr.alloc (.cells #[.int .i64 e.n, .int .i64 e.c, .string e.k, .bool e.d, .slice e.v.p e.v.n e.v.c, .slice e.x.p e.x.n e.x.c] 50) := ⟨_, rfl⟩
            have HX3 : Hid (w3.heap[X]? = some (.cells #[.int .i64 e.n, .int .i64 e.c, .string e.k, .bool e.d, .slice e.v.p e.v.n e.v.c, .slice e.x.p e.x.n e.x.c] 50 (0, 0))) := by unfold Hid; rw [HXX.out, hw3]; exact heap_alloc_new wr _
            have HS3 : Hid (Apart [] wr w3) := by unfold Hid; rw [hw3]; exact (Apart.refl [] wr).alloc _
            have HA3 := hid (HJ.out.a.trans HS3.out)
            have HB3 := hid (keep0 HS3.out HJ.out.b)
            have HXA : Hid (X ≠ A) := by unfold Hid; have := lt_of_heap HJ.out.b; rw [HXX.out]; omega
            go_upto_region 11 with fail
            rw [← hw3, ← HXX.out]
            clear hw3 HXX c0 c1 c2 c3 c4 c5
            have HXd : Hid (w3.drew.heap[X]? = some (.cells #[.int .i64 e.n, .int .i64 e.c, .string e.k, .bool e.d, .slice e.v.p e.v.n e.v.c, .slice e.x.p e.x.n e.x.c] 50 (0, 0)) ∧ w3.drew.heap[A]? = some (.cells #[.int .i64 an, .int .i64 ac] 47 (0, 0))) := ⟨HX3.out, HB3.out⟩
            have HAd := hid (HA3.out.trans (Apart.refl [] w3).drew)
            obtain ⟨ne, Hne⟩ : ∃ ne : Bool, Hid (ne = true ↔ e.k ≠ k0) := bool_of _
            have HNE : Hid ((e.k.toList == k0.toList) = !ne) := by
              unfold Hid
              have := Hne.out
              by_cases hk : e.k = k0
              · cases ne with
                | false => simp [hk]
                | true => exact absurd hk (this.1 rfl)
              · rw [this.2 hk]
                simp only [Bool.not_true, beq_eq_false_iff_ne, ne_eq]
                exact fun h => hk (toList_inj' h)
            refine wp_region_held_drew (S := fun W => (W.heap[X]? = some (.cells #[.int .i64 e.n, .int .i64 e.c, .string e.k, .bool e.d, .slice e.v.p e.v.n e.v.c, .slice e.x.p e.x.n e.x.c] 50 (0, 0)) ∧ W.heap[A]? = some (.cells #[.int .i64 an, .int .i64 ac] 47 (0, 0))) ∧ W.cell? ⟨P, o + 2, none⟩ = some (.string k0)) (by kernel_rfl) ⟨HXd.out, HK0.out _ HAd.out⟩ (fun hHeld => ?_)
            generalize w3.drew = wd at *
            refine tk 0 24 (.pointer (some ⟨X, 2, none⟩)) rfl ?_ ?_
            · intro W hSW; go_simp
            simp only [Act.put, List.setIfInBounds_toArray, List.set_cons_zero, List.set_cons_succ]
            refine tk 1 25 (.string e.k) rfl ?_ ?_
            · intro W hSW; obtain ⟨x0, x1, x2, x3, x4, x5⟩ := row6v hSW.1.1; go_simp
            simp only [Act.put, List.setIfInBounds_toArray, List.set_cons_zero, List.set_cons_succ]
            refine tk 2 26 (.slice (some ⟨P, o, none⟩) sn sc) rfl ?_ ?_
            · intro W hSW; go_simp
            simp only [Act.put, List.setIfInBounds_toArray, List.set_cons_zero, List.set_cons_succ]
            refine tk 3 27 (.pointer (some ⟨P, o, none⟩)) rfl ?_ ?_
            · intro W hSW; go_simp
            simp only [Act.put, List.setIfInBounds_toArray, List.set_cons_zero, List.set_cons_succ]
            refine tk 4 28 (.pointer (some ⟨P, o + 2, none⟩)) rfl ?_ ?_
            · intro W hSW; go_simp
            simp only [Act.put, List.setIfInBounds_toArray, List.set_cons_zero, List.set_cons_succ]
            refine tk 5 29 (.string k0) rfl ?_ ?_
            · intro W hSW; have z := hSW.2; go_simp
            simp only [Act.put, List.setIfInBounds_toArray, List.set_cons_zero, List.set_cons_succ]
            refine tk 6 30 (.bool ne) rfl ?_ ?_
            · intro W hSW; have hne := HNE.out; go_simp
            simp only [Act.put, List.setIfInBounds_toArray, List.set_cons_zero, List.set_cons_succ]
            refine wpAnyH_done (by kernel_rfl) ?_ _
            clear hHeld
            cases ne with
            | true =>
              have HE4 : Hid (eKey rs = 50) := by unfold Hid; rw [HE.out]; exact HEC.out.1 (Hne.out.1 rfl)
              go_wp2_with fail
              go_ret
              exact ⟨by rw [HE4.out]; rfl, HAd.out⟩
            | false =>
              have HKE : Hid (e.k = k0) := by
                unfold Hid
                by_cases hk : e.k = k0
                · exact hk
                · have := Hne.out.2 hk; cases this
              obtain ⟨x0, x1, x2, x3, x4, x5⟩ := row6v HXd.out.1
              go_wp2_with fail
              clear x0 x1 x2 x3 x4 x5
              obtain ⟨v3, H3⟩ := bool_of (Stor r)
              replace H3 := hid H3
              refine (storable_ok e r (HRe.out.kept0 HAd.out) v3 H3.out).mono ?_
              rintro _ w4 ⟨rfl, a4⟩
              have HA4 := hid (HAd.out.trans a4)
              have HX4 := hid (keep0 a4 HXd.out.1)
              have HB4 := hid (keep0 a4 HXd.out.2)
              clear a4
              dsimp only
              cases v3 with
              | false =>
                have HE4 : Hid (eKey rs = 52) := by unfold Hid; rw [HE.out]; exact HEC.out.2.1 HKE.out (fun hh => by have := H3.out.2 hh; cases this)
                go_wp2_with fail
                go_ret
                exact ⟨by rw [HE4.out]; rfl, HA4.out⟩
              | true =>
                have hst := H3.out.1 rfl
                have HN7 : Hid ((0 ≤ e.n ∧ e.n ≤ 7) ∧ 1 ≤ e.c ∧ e.c ≤ 1048576) := by unfold Hid; have h1 := hst.n; have h2 := hst.c; have e1 : e.n = r.n := HRe.out.n; have e2 : e.c = r.c := HRe.out.c; rw [e1, e2]; exact ⟨h1, h2⟩
                have HE5 := hid (HEC.out.2.2.1 HKE.out hst)
                have HE6 := hid (HEC.out.2.2.2 HKE.out hst)
                clear hst
                go_upto_region 15 with fail
                have HXe : Hid (w4.drew.heap[X]? = some (.cells #[.int .i64 e.n, .int .i64 e.c, .string e.k, .bool e.d, .slice e.v.p e.v.n e.v.c, .slice e.x.p e.x.n e.x.c] 50 (0, 0)) ∧ w4.drew.heap[A]? = some (.cells #[.int .i64 an, .int .i64 ac] 47 (0, 0))) := ⟨HX4.out, HB4.out⟩
                have HAe := hid (HA4.out.trans (Apart.refl [] w4).drew)
                refine wp_region_held_drew (S := fun W => W.heap[X]? = some (.cells #[.int .i64 e.n, .int .i64 e.c, .string e.k, .bool e.d, .slice e.v.p e.v.n e.v.c, .slice e.x.p e.x.n e.x.c] 50 (0, 0)) ∧ W.heap[A]? = some (.cells #[.int .i64 an, .int .i64 ac] 47 (0, 0))) (by kernel_rfl) HXe.out (fun hHeld => ?_)
                generalize w4.drew = we at *
                refine tk 0 34 (.pointer (some ⟨X, 0, none⟩)) rfl ?_ ?_
                · intro W hSW; go_simp
                simp only [Act.put, List.setIfInBounds_toArray, List.set_cons_zero, List.set_cons_succ]
                refine tk 1 35 (.pointer (some ⟨X, 0, none⟩)) rfl ?_ ?_
                · intro W hSW; go_simp
                simp only [Act.put, List.setIfInBounds_toArray, List.set_cons_zero, List.set_cons_succ]
                refine tk 2 36 (.int .i64 e.n) rfl ?_ ?_
                · intro W hSW; obtain ⟨x0, x1, x2, x3, x4, x5⟩ := row6v hSW.1; go_simp
                simp only [Act.put, List.setIfInBounds_toArray, List.set_cons_zero, List.set_cons_succ]
                refine tk 3 37 (.pointer (some ⟨A, 0, none⟩)) rfl ?_ ?_
                · intro W hSW; go_simp
                simp only [Act.put, List.setIfInBounds_toArray, List.set_cons_zero, List.set_cons_succ]
                refine tk 4 38 (.int .i64 an) rfl ?_ ?_
                · intro W hSW; obtain ⟨a0, a1⟩ := row2v hSW.2; go_simp
                simp only [Act.put, List.setIfInBounds_toArray, List.set_cons_zero, List.set_cons_succ]
                by_cases hna : e.n < an
                · have HE4 : Hid (eKey rs = 1) := by unfold Hid; rw [HE.out]; exact HE5.out (by omega)
                  refine tk 5 39 (.bool true) rfl ?_ ?_
                  · intro W hSW; go_simp
                  simp only [Act.put, List.setIfInBounds_toArray, List.set_cons_zero, List.set_cons_succ]
                  refine tk 6 40 (.bool true) rfl ?_ ?_
                  · intro W hSW; go_simp
                  simp only [Act.put, List.setIfInBounds_toArray, List.set_cons_zero, List.set_cons_succ]
                  refine tu 7 41 rfl ?_
                  simp only [Act.put, List.setIfInBounds_toArray, List.set_cons_zero, List.set_cons_succ]
                  refine tu 8 42 rfl ?_
                  simp only [Act.put, List.setIfInBounds_toArray, List.set_cons_zero, List.set_cons_succ]
                  refine tu 9 43 rfl ?_
                  simp only [Act.put, List.setIfInBounds_toArray, List.set_cons_zero, List.set_cons_succ]
                  refine tu 10 44 rfl ?_
                  simp only [Act.put, List.setIfInBounds_toArray, List.set_cons_zero, List.set_cons_succ]
                  refine tu 11 45 rfl ?_
                  simp only [Act.put, List.setIfInBounds_toArray, List.set_cons_zero, List.set_cons_succ]
                  refine tu 12 46 rfl ?_
                  simp only [Act.put, List.setIfInBounds_toArray, List.set_cons_zero, List.set_cons_succ]
                  refine tu 13 47 rfl ?_
                  simp only [Act.put, List.setIfInBounds_toArray, List.set_cons_zero, List.set_cons_succ]
                  refine wpAnyH_pass 14 (o := ⟨some 48, _, _, _, _, _⟩) (by kernel_rfl) rfl (by kernel_rfl) (by assumption) ?_
                  simp only [Act.put, List.setIfInBounds_toArray, List.set_cons_zero, List.set_cons_succ]
                  refine tu 15 49 rfl ?_
                  simp only [Act.put, List.setIfInBounds_toArray, List.set_cons_zero, List.set_cons_succ]
                  refine tk 16 50 (.bool true) rfl ?_ ?_
                  · intro W hSW; go_simp
                  simp only [Act.put, List.setIfInBounds_toArray, List.set_cons_zero, List.set_cons_succ]
                  refine wpAnyH_done (by kernel_rfl) ?_ _
                  clear hHeld
                  go_wp2_with fail
                  go_ret
                  exact ⟨by rw [HE4.out]; rfl, HAe.out⟩
                · have hna' : an ≤ e.n := by omega
                  refine tk 5 39 (.bool false) rfl ?_ ?_
                  · intro W hSW; go_simp
                  simp only [Act.put, List.setIfInBounds_toArray, List.set_cons_zero, List.set_cons_succ]
                  refine tk 6 40 (.bool false) rfl ?_ ?_
                  · intro W hSW; go_simp
                  simp only [Act.put, List.setIfInBounds_toArray, List.set_cons_zero, List.set_cons_succ]
                  refine tk 7 41 (.pointer (some ⟨X, 0, none⟩)) rfl ?_ ?_
                  · intro W hSW; go_simp
                  simp only [Act.put, List.setIfInBounds_toArray, List.set_cons_zero, List.set_cons_succ]
                  refine tk 8 42 (.pointer (some ⟨X, 1, none⟩)) rfl ?_ ?_
                  · intro W hSW; go_simp
                  simp only [Act.put, List.setIfInBounds_toArray, List.set_cons_zero, List.set_cons_succ]
                  refine tk 9 43 (.int .i64 e.c) rfl ?_ ?_
                  · intro W hSW; obtain ⟨x0, x1, x2, x3, x4, x5⟩ := row6v hSW.1; go_simp
                  simp only [Act.put, List.setIfInBounds_toArray, List.set_cons_zero, List.set_cons_succ]
                  refine tk 10 44 (.agg #[.int .i64 an, .int .i64 ac]) rfl ?_ ?_
                  · intro W hSW; obtain ⟨a0, a1⟩ := row2v hSW.2; go_simp
                  simp only [Act.put, List.setIfInBounds_toArray, List.set_cons_zero, List.set_cons_succ]
                  refine tk 11 45 (.pointer (some ⟨X, 0, none⟩)) rfl ?_ ?_
                  · intro W hSW; go_simp
                  simp only [Act.put, List.setIfInBounds_toArray, List.set_cons_zero, List.set_cons_succ]
                  refine tk 12 46 (.pointer (some ⟨X, 0, none⟩)) rfl ?_ ?_
                  · intro W hSW; go_simp
                  simp only [Act.put, List.setIfInBounds_toArray, List.set_cons_zero, List.set_cons_succ]
                  refine tk 13 47 (.int .i64 e.n) rfl ?_ ?_
                  · intro W hSW; obtain ⟨x0, x1, x2, x3, x4, x5⟩ := row6v hSW.1; go_simp
                  simp only [Act.put, List.setIfInBounds_toArray, List.set_cons_zero, List.set_cons_succ]
                  refine wpAnyH_ready (rs := [14]) (by kernel_rfl) (by simp) ?_
                  refine AllReadyH.cons rfl (fun KK hKK => ?_) AllReadyH.nil
                  go_simp
                  refine (leastCount_ok we an ac e.n ⟨by have := HJ.out.l; omega, by have := HJ.out.l; omega⟩).mono ?_
                  rintro _ w5 ⟨rfl, a5⟩
                  have HA5 := hid (HAe.out.trans a5)
                  have HX5 : Hid (w5.heap[X]? = some (.cells #[.int .i64 e.n, .int .i64 e.c, .string e.k, .bool e.d, .slice e.v.p e.v.n e.v.c, .slice e.x.p e.x.n e.x.c] 50 (0, 0)) ∧ w5.heap[A]? = some (.cells #[.int .i64 an, .int .i64 ac] 47 (0, 0))) := ⟨keep0 a5 HXe.out.1, keep0 a5 HXe.out.2⟩
                  clear a5
                  dsimp only
                  refine hKK.out _ _ HX5.out (fun hHeld => ?_)
                  clear hKK KK
                  try simp only [Act.put, List.setIfInBounds_toArray, List.set_cons_zero, List.set_cons_succ]
                  obtain ⟨lc, Hlc⟩ : ∃ lc, Hid (lc = leastI an ac e.n) := ⟨_, rfl⟩
                  rw [← Hlc.out]
                  by_cases hcl2 : e.c < lc
                  · have HE4 : Hid (eKey rs = 1) := by unfold Hid; rw [HE.out]; exact HE5.out (by rw [← Hlc.out]; omega)
                    refine tk 15 49 (.bool true) rfl ?_ ?_
                    · intro W hSW; go_simp
                    simp only [Act.put, List.setIfInBounds_toArray, List.set_cons_zero, List.set_cons_succ]
                    refine tk 16 50 (.bool true) rfl ?_ ?_
                    · intro W hSW; go_simp
                    simp only [Act.put, List.setIfInBounds_toArray, List.set_cons_zero, List.set_cons_succ]
                    refine wpAnyH_done (by kernel_rfl) ?_ _
                    clear hHeld
                    go_wp2_with fail
                    go_ret
                    exact ⟨by rw [HE4.out]; rfl, HA5.out⟩
                  · have HE7 : Hid (eKeys k0 0 0 rs = eKeys k0 e.n e.c (rs.drop (i + 1))) := HE6.out (by rw [← Hlc.out]; omega)
                    refine tk 15 49 (.bool false) rfl ?_ ?_
                    · intro W hSW; go_simp
                    simp only [Act.put, List.setIfInBounds_toArray, List.set_cons_zero, List.set_cons_succ]
                    refine tk 16 50 (.bool false) rfl ?_ ?_
                    · intro W hSW; go_simp
                    simp only [Act.put, List.setIfInBounds_toArray, List.set_cons_zero, List.set_cons_succ]
                    refine wpAnyH_done (by kernel_rfl) ?_ _
                    clear hHeld
                    obtain ⟨x0, x1, x2, x3, x4, x5⟩ := row6v HX5.out.1
                    obtain ⟨a0, a1⟩ := row2v HX5.out.2
                    have f0 := frozen_of_row _ _ 0 _ _ HX5.out.2
                    have f1 := frozen_of_row _ _ 1 _ _ HX5.out.2
                    obtain ⟨w6, hw6⟩ : ∃ W, W = (w5.setCell ⟨A, 0, none⟩ (.int .i64 e.n)).setCell ⟨A, 1, none⟩ (.int .i64 e.c) := ⟨_, rfl⟩
                    have HS6 : Hid (Apart [A] w5 w6) := by unfold Hid; rw [hw6]; exact ((Apart.refl _ _).setCell (.inl (by simp)) _).setCell (.inl (by simp)) _
                    have HB6 : Hid (w6.heap[A]? = some (.cells #[.int .i64 e.n, .int .i64 e.c] 47 (0, 0))) := by
                      unfold Hid; rw [hw6]
                      have h1 := heap_setCell_same w5 A 0 _ 47 (.int .i64 e.n) HX5.out.2
                      have h2 := heap_setCell_same _ A 1 _ 47 (.int .i64 e.c) h1
                      simpa using h2
                    have HA6 := hid (HA5.out.trans' HS6.out (by intro y hy; simp at hy; rw [hy]; exact .inr HLA.out))
                    go_wp2_with fail
                    try rw [← hw6]
                    go_roundw
                    case rel => exact ⟨i + 1, e.n, e.c, by go_num, by omega, by (try rw [← hw6]); exact ⟨HA6.out, HB6.out, HE7.out, by have := HN7.out; omega⟩⟩
                    case measure => simp [intOf]; omega
          · have hlti : ¬ ((i : Nat) : Int) < (sn : Int) := by omega
            have HE4 : Hid (eKey rs = 0) := by unfold Hid; rw [HE.out, HJ.out.e, List.drop_eq_nil_of_le (by omega)]; rfl
            go_wp2_with fail
            go_ret
            exact ⟨by rw [HE4.out]; rfl, HJ.out.a⟩
    · have h8i : ((s.n : Nat) : Int) > 8 := by omega
      have HE : Hid (eKey rs = 71) := by unfold Hid; rw [HEK.out, if_neg h8]
      go_enter Try.func70, Try.ntmps70
      go_wp2_with fail
      go_ret
      exact ⟨by rw [HE.out]; rfl, Apart.refl _ _⟩
end Go.Proofs.Ytllhmidpphlbhaa.ds
