import Derived.Deep.RegionHeld
import Derived.OrdersHeld
import Derived.WalkKit
import Derived.ProofKit
import Derived.Lib.TrailingZeros
import Derived.Test.YtllhmidpphlbhaaChecked
import Derived.OpenShut
import Derived.Deep.QuietTactic
import Derived.BigQuiet
import Derived.BigRegion
import Derived.Laws.CopyOwn
import Derived.Laws.Bits64b
import Derived.Laws.MathBits
import Derived.Laws.ShiftsVarLaws
import Derived.WalkSmall
import Derived.Laws.ResultCell
import Derived.Lib.BitFns
import Derived.Laws.StructEq
import Derived.ArgAppend
import Derived.Deep.RegionLaw
import Derived.Deep.DeepAppendRoom
import Derived.Sort.WalkA
import Derived.Laws.Strings
import Derived.Deep.CutBlock
import Derived.Great.BuildSlice
import Derived.Laws.AppendOwnNone
import Derived.Lib.Overlaps
import Derived.Lib.AppendZerosOnto
import Derived.Laws.NewBlocks
import Derived.Laws.Externs
import Derived.Laws.IdiomCopy
import Derived.Laws.BytesString
import Derived.Deep.CutRange
import Derived.RangeFuncNested
import Derived.RangeFuncBound
import Derived.RangeFuncCalls
import Derived.RangeFuncLeaves
import Derived.Shelf.Abstract
import Derived.Shelf.RegionOpen
import Derived.OwnWalkIn
import Derived.TacticsInMore
import Derived.LoopNIn
import Derived.LoopIn
import GoSem.Claim
import GoSem.ClaimJoined
import GoSem.ClaimMapViews
import Derived.JoinedTies
import Derived.KernelRfl
import Derived.Deep.OwnRows
import Derived.Lib.LaidTab
import Derived.JoinedCond
import Derived.ShutString
import Derived.ChangeOld
import Derived.Below
import Derived.Carry
import Derived.ChangeSlices
import Derived.Deep.Slices
import Derived.Deep.DeepHandedRow
import Derived.RowKit
import Derived.ChangeShapes
import Derived.SizedLaws
import Derived.ChangeMaps5
import Derived.Lib.Walk
import Derived.Lib.SliceRun
import Derived.Lib.AppendStr
import Derived.Lib.ConvBytes
import Derived.Deep.RegionHeld3
import Derived.Deep.MidRow
import Derived.Laws.MakeOwn
import Derived.Lib.SlBytesConst
import Derived.Test.YtllhmidpphlbhaaRows
import Derived.Test.YtllhmidpphlbhaaF21
import Derived.Test.YtllhmidpphlbhaaF24
namespace Go.Proofs.Ytllhmidpphlbhaa.ds
open Go.ChangeShapes Go.WideShapes Go.ChangeAt Go.RowKit Go.Sort
set_option linter.unusedVariables false
set_option linter.unusedSimpArgs false

/-- the walk of the document's clocks -/
structure QI (w wt : World) (cs : List (Int × List S)) (vs : List Nat) (t : Sl) (i : Nat) (lo : Int) : Prop where
  b : Bf w wt t (vs ++ encCls (clOf (cs.take i)))
  e : eCls 0 cs = eCls lo (cs.drop i)
  l : lo = if i = 0 then 0 else (gC cs (i - 1)).1 + 1
  r : 0 ≤ lo ∧ lo ≤ 16
  x : ∀ c ∈ cs.take i, c.2.length ≤ 8
set_option maxHeartbeats 8000000 in
set_option maxRecDepth 100000 in
theorem rbuildClocks_ok {w : World} (gn : Int) (s : Sl) (ks : List Ck) (cs : List (Int × List S)) (h : RCs w s ks cs) : Calls Try.prog 60 #[.int .i64 gn, .slice s.p s.n s.c] w fun q w' => RO w w' q (eClocks gn cs) (pcC gn cs) := by
  have HC := hid h
  have hcl := h.cl
  have hlim := h.lim
  clear h
  by_cases h1 : gn < 0
  · have HE : Hid (eClocks gn cs = 1) := by unfold Hid eClocks; rw [if_neg (by omega)]
    go_enter Try.func60, Try.ntmps60
    go_wp2_with fail
    go_ret2
    exact ⟨Apart.refl _ _, fun _ => by rw [HE.out]; rfl, fun h => by rw [HE.out] at h; exact absurd h (by decide)⟩
  · by_cases h2 : gn > 281474976710655
    · have HE : Hid (eClocks gn cs = 1) := by unfold Hid eClocks; rw [if_neg (by omega)]
      go_enter Try.func60, Try.ntmps60
      go_wp2_with fail
      go_ret2
      exact ⟨Apart.refl _ _, fun _ => by rw [HE.out]; rfl, fun h => by rw [HE.out] at h; exact absurd h (by decide)⟩
    · by_cases h3 : s.n > 16
      · have h3i : ((s.n : Nat) : Int) > 16 := by omega
        have HE : Hid (eClocks gn cs = 71) := by unfold Hid eClocks; rw [if_pos (by omega), if_neg (by omega)]
        go_enter Try.func60, Try.ntmps60
        go_wp2_with fail
        go_ret2
        exact ⟨Apart.refl _ _, fun _ => by rw [HE.out]; rfl, fun h => by rw [HE.out] at h; exact absurd h (by decide)⟩
      · have h3i : ¬ ((s.n : Nat) : Int) > 16 := by omega
        have HE : Hid (eClocks gn cs = eCls 0 cs) := by unfold Hid eClocks; rw [if_pos (by omega), if_pos (by omega)]
        obtain ⟨g0, hg0⟩ := Int.eq_ofNat_of_zero_le (show 0 ≤ gn by omega)
        subst hg0
        have HB2 : Hid (Bf w (w.alloc (.cells #[.int .u8 ((1 : Nat) : Int)] 5)) ⟨some ⟨w.heap.size, 0, none⟩, 1, 1⟩ [1]) := Bf.made w 1
        obtain ⟨w3, hw3⟩ : ∃ W, W = w.alloc (.cells #[.int .u8 1] 5) := ⟨_, rfl⟩
        rw [show ((1 : Nat) : Int) = 1 from rfl, ← hw3] at HB2
        obtain ⟨s2, Hs2⟩ : ∃ s2 : Sl, Hid (s2 = ⟨some ⟨w.heap.size, 0, none⟩, 1, 1⟩) := ⟨_, rfl⟩
        rw [← Hs2.out] at HB2
        have HC1 := hid (rnum_ok HB2.out g0 6 (by omega) (by omega) (by simp))
        rw [Hs2.out] at HC1
        go_enter Try.func60, Try.ntmps60
        go_wp2_with fail
        rw [← hw3]
        clear hw3
        refine HC1.out.mono ?_
        rintro _ w4 ⟨t4, rfl, b4, _⟩
        have HB4 := hid b4
        clear b4 HC1
        dsimp only
        have HL4 : Hid (([1] ++ encN 6 g0).length = 7) := by unfold Hid; rw [List.length_append, encN_len]; rfl
        generalize hvs4 : [1] ++ encN 6 g0 = vs4 at *
        have Hvs4 := hid hvs4
        clear hvs4
        go_wp2_with fail
        refine (rnum_ok HB4.out s.n 1 (by omega) (by omega) (by have := HL4.out; omega)).mono ?_
        rintro _ w5 ⟨t5, rfl, b5, _⟩
        have HB5 := hid b5
        clear b5
        dsimp only
        have HL5 : Hid ((vs4 ++ encN 1 s.n).length = 8) := by unfold Hid; rw [List.length_append, encN_len, HL4.out]
        generalize hvs5 : vs4 ++ encN 1 s.n = vs5 at *
        have Hvs5 := hid hvs5
        clear hvs5
        go_wp2_with fail
        go_loopw [6, 7, 8, 9] (fun a b _ _ wt => ∃ (i : Nat) (t : Sl) (lo : Int), a = .slice t.p t.n t.c ∧ b = .int .i64 (i : Nat) ∧ i ≤ s.n ∧ QI w wt cs vs5 t i lo) (fun _ b _ _ _ => s.n - (intOf b).toNat)
        case atStart => exact ⟨0, t5, 0, rfl, rfl, Nat.zero_le _, by simpa [encCls, clOf] using HB5.out, rfl, rfl, by omega, by simp⟩
        case round =>
          obtain ⟨i, t, lo, rfl, rfl, hi, hQ⟩ := hrel
          have HQ := hid hQ
          clear hQ
          by_cases hlt : i < s.n
          · have hlti : ((i : Nat) : Int) < (s.n : Int) := by omega
            have HCr := hid (HC.out.kept0 HQ.out.b.nw.ap)
            obtain ⟨P, o, hP, hPl, c0, c1⟩ := HCr.out.cells i hlt
            have HEA := hid (HC.out.each i hlt)
            have HE3 := hid (eCls_cons lo (gC cs i) (cs.drop (i + 1)))
            rw [← dropC_g (by omega), ← HQ.out.e] at HE3
            have HPR : Hid (0 < i → ∀ W, Apart [] w W → W.cell? ⟨P, o + (i - 1) * 2, none⟩ = some (.int .i64 (lo - 1))) := fun h0 W aw => by
              obtain ⟨P', o', hP', _, d0, _⟩ := (HC.out.kept0 aw).cells (i - 1) (by omega)
              rw [hP] at hP'
              simp only [Option.some.injEq, Addr.mk.injEq] at hP'
              obtain ⟨rfl, rfl, -⟩ := hP'
              have hl := HQ.out.l
              rw [if_neg (by omega)] at hl
              rw [d0, (HC.out.each (i - 1) (by omega)).1, hl, Int.add_sub_cancel]
            have HES : Hid (vs5 ++ encCls (clOf (cs.take (i + 1))) = (vs5 ++ encCls (clOf (cs.take i))) ++ encCl ((gC cs i).1.toNat, (gC cs i).2)) := by unfold Hid; rw [takeC_g (by omega), encCls_snoc, List.append_assoc]
            have HLE : Hid ((vs5 ++ encCls (clOf (cs.take i))).length ≤ 100000) := by
              unfold Hid
              have := encCls_lim (l := clOf (cs.take i)) (fun c hc => by
                unfold clOf at hc
                obtain ⟨y, hy, rfl⟩ := List.mem_map.1 hc
                exact HQ.out.x y hy)
              unfold clOf at this
              rw [List.length_map, List.length_take] at this
              rw [List.length_append, HL5.out]
              unfold clOf
              omega
            have HGC : Hid (gC cs i = gC cs i) := rfl
            generalize hck : gK ks i = ck at *
            generalize hcx : gC cs i = cx at *
            have Hcx := hid hcx
            clear hck hcx
            obtain ⟨kr0, kse⟩ := ck
            obtain ⟨kr, cset⟩ := cx
            dsimp only at HEA HE3 HES c0 c1
            have hkr : kr0 = kr := HEA.out.1
            subst hkr
            obtain ⟨X, HXX⟩ : ∃ X, Hid (X = wr.heap.size) := ⟨_, rfl⟩
            obtain ⟨w6, hw6⟩ : ∃ W, W = wr.alloc (.cells #[.int .i64 kr0, .slice kse.p kse.n kse.c] 61) := ⟨_, rfl⟩
            have HX6 : Hid (w6.heap[X]? = some (.cells #[.int .i64 kr0, .slice kse.p kse.n kse.c] 61 (0, 0))) := by unfold Hid; rw [HXX.out, hw6]; exact heap_alloc_new wr _
            have HS6 : Hid (Apart [] wr w6) := by unfold Hid; rw [hw6]; exact (Apart.refl [] wr).alloc _
            have HB6 := hid (HQ.out.b.kept HS6.out)
            have HLR := hid HQ.out.r
            have HLL := hid HQ.out.l
            generalize vs5 ++ encCls (clOf (cs.take i)) = ws at *
            generalize s.p = sp at *
            subst hP
            go_upto_region 11 with fail
            rw [← hw6, ← HXX.out]
            clear hw6 HXX c0 c1
            obtain ⟨bb, Hbb⟩ : ∃ bb : Bool, Hid (bb = decide (¬ (lo ≤ kr0 ∧ kr0 ≤ 15))) := ⟨_, rfl⟩
            go_cut [58] from 36 to 57 (fun u wx => u = .bool bb ∧ Bf w wx t ws ∧ wx.heap[X]? = some (.cells #[.int .i64 kr0, .slice kse.p kse.n kse.c] 61 (0, 0)))
            · have HBd := hid (HB6.out.kept (Apart.refl [] w6).drew)
              have HXd : Hid (w6.drew.heap[X]? = some (.cells #[.int .i64 kr0, .slice kse.p kse.n kse.c] 61 (0, 0))) := HX6.out
              refine wp_region_held_drew (S := fun W => Apart [] w W ∧ W.heap[X]? = some (.cells #[.int .i64 kr0, .slice kse.p kse.n kse.c] 61 (0, 0))) (by kernel_rfl) ⟨HBd.out.nw.ap, HXd.out⟩ (fun hHeld => ?_)
              generalize w6.drew = wd at *
              have hlr := HLR.out
              by_cases k1 : kr0 < 0
              · have hbb : bb = true := by rw [Hbb.out]; simp; omega
                subst hbb
                refine tk 0 36 (.pointer (some ⟨X, 0, none⟩)) rfl ?_ ?_
                · intro W hSW; go_simp
                simp only [Act.put, List.setIfInBounds_toArray, List.set_cons_zero, List.set_cons_succ]
                refine tk 1 37 (.int .i64 kr0) rfl ?_ ?_
                · intro W hSW; obtain ⟨x0, x1⟩ := row2v hSW.2; go_simp
                simp only [Act.put, List.setIfInBounds_toArray, List.set_cons_zero, List.set_cons_succ]
                refine tk 2 38 (.bool true) rfl ?_ ?_
                · intro W hSW; go_simp
                simp only [Act.put, List.setIfInBounds_toArray, List.set_cons_zero, List.set_cons_succ]
                refine tk 3 39 (.bool true) rfl ?_ ?_
                · intro W hSW; go_simp
                simp only [Act.put, List.setIfInBounds_toArray, List.set_cons_zero, List.set_cons_succ]
                refine tu 4 40 rfl ?_
                simp only [Act.put, List.setIfInBounds_toArray, List.set_cons_zero, List.set_cons_succ]
                refine tu 5 41 rfl ?_
                simp only [Act.put, List.setIfInBounds_toArray, List.set_cons_zero, List.set_cons_succ]
                refine tu 6 42 rfl ?_
                simp only [Act.put, List.setIfInBounds_toArray, List.set_cons_zero, List.set_cons_succ]
                refine tk 7 43 (.bool true) rfl ?_ ?_
                · intro W hSW; go_simp
                simp only [Act.put, List.setIfInBounds_toArray, List.set_cons_zero, List.set_cons_succ]
                refine tk 8 44 (.bool true) rfl ?_ ?_
                · intro W hSW; go_simp
                simp only [Act.put, List.setIfInBounds_toArray, List.set_cons_zero, List.set_cons_succ]
                refine tu 9 45 rfl ?_
                simp only [Act.put, List.setIfInBounds_toArray, List.set_cons_zero, List.set_cons_succ]
                refine tu 10 46 rfl ?_
                simp only [Act.put, List.setIfInBounds_toArray, List.set_cons_zero, List.set_cons_succ]
                refine tu 11 47 rfl ?_
                simp only [Act.put, List.setIfInBounds_toArray, List.set_cons_zero, List.set_cons_succ]
                refine tu 12 48 rfl ?_
                simp only [Act.put, List.setIfInBounds_toArray, List.set_cons_zero, List.set_cons_succ]
                refine tu 13 49 rfl ?_
                simp only [Act.put, List.setIfInBounds_toArray, List.set_cons_zero, List.set_cons_succ]
                refine tu 14 50 rfl ?_
                simp only [Act.put, List.setIfInBounds_toArray, List.set_cons_zero, List.set_cons_succ]
                refine tu 15 51 rfl ?_
                simp only [Act.put, List.setIfInBounds_toArray, List.set_cons_zero, List.set_cons_succ]
                refine tu 16 52 rfl ?_
                simp only [Act.put, List.setIfInBounds_toArray, List.set_cons_zero, List.set_cons_succ]
                refine tu 17 53 rfl ?_
                simp only [Act.put, List.setIfInBounds_toArray, List.set_cons_zero, List.set_cons_succ]
                refine tu 18 54 rfl ?_
                simp only [Act.put, List.setIfInBounds_toArray, List.set_cons_zero, List.set_cons_succ]
                refine tu 19 55 rfl ?_
                simp only [Act.put, List.setIfInBounds_toArray, List.set_cons_zero, List.set_cons_succ]
                refine tu 20 56 rfl ?_
                simp only [Act.put, List.setIfInBounds_toArray, List.set_cons_zero, List.set_cons_succ]
                refine tu 21 57 rfl ?_
                simp only [Act.put, List.setIfInBounds_toArray, List.set_cons_zero, List.set_cons_succ]
                refine tk 22 58 (.bool true) rfl ?_ ?_
                · intro W hSW; go_simp
                simp only [Act.put, List.setIfInBounds_toArray, List.set_cons_zero, List.set_cons_succ]
                refine wpAnyH_done (by kernel_rfl) ?_ _
                clear hHeld
                go_wp2_with fail
                go_meet
                exact ⟨rfl, HBd.out, HXd.out⟩
              · by_cases k2 : kr0 ≥ 16
                · have hbb : bb = true := by rw [Hbb.out]; simp; omega
                  subst hbb
                  refine tk 0 36 (.pointer (some ⟨X, 0, none⟩)) rfl ?_ ?_
                  · intro W hSW; go_simp
                  simp only [Act.put, List.setIfInBounds_toArray, List.set_cons_zero, List.set_cons_succ]
                  refine tk 1 37 (.int .i64 kr0) rfl ?_ ?_
                  · intro W hSW; obtain ⟨x0, x1⟩ := row2v hSW.2; go_simp
                  simp only [Act.put, List.setIfInBounds_toArray, List.set_cons_zero, List.set_cons_succ]
                  refine tk 2 38 (.bool false) rfl ?_ ?_
                  · intro W hSW; go_simp
                  simp only [Act.put, List.setIfInBounds_toArray, List.set_cons_zero, List.set_cons_succ]
                  refine tk 3 39 (.bool false) rfl ?_ ?_
                  · intro W hSW; go_simp
                  simp only [Act.put, List.setIfInBounds_toArray, List.set_cons_zero, List.set_cons_succ]
                  refine tk 4 40 (.pointer (some ⟨X, 0, none⟩)) rfl ?_ ?_
                  · intro W hSW; go_simp
                  simp only [Act.put, List.setIfInBounds_toArray, List.set_cons_zero, List.set_cons_succ]
                  refine tk 5 41 (.int .i64 kr0) rfl ?_ ?_
                  · intro W hSW; obtain ⟨x0, x1⟩ := row2v hSW.2; go_simp
                  simp only [Act.put, List.setIfInBounds_toArray, List.set_cons_zero, List.set_cons_succ]
                  refine tk 6 42 (.bool true) rfl ?_ ?_
                  · intro W hSW; go_simp
                  simp only [Act.put, List.setIfInBounds_toArray, List.set_cons_zero, List.set_cons_succ]
                  refine tk 7 43 (.bool true) rfl ?_ ?_
                  · intro W hSW; go_simp
                  simp only [Act.put, List.setIfInBounds_toArray, List.set_cons_zero, List.set_cons_succ]
                  refine tk 8 44 (.bool true) rfl ?_ ?_
                  · intro W hSW; go_simp
                  simp only [Act.put, List.setIfInBounds_toArray, List.set_cons_zero, List.set_cons_succ]
                  refine tu 9 45 rfl ?_
                  simp only [Act.put, List.setIfInBounds_toArray, List.set_cons_zero, List.set_cons_succ]
                  refine tu 10 46 rfl ?_
                  simp only [Act.put, List.setIfInBounds_toArray, List.set_cons_zero, List.set_cons_succ]
                  refine tu 11 47 rfl ?_
                  simp only [Act.put, List.setIfInBounds_toArray, List.set_cons_zero, List.set_cons_succ]
                  refine tu 12 48 rfl ?_
                  simp only [Act.put, List.setIfInBounds_toArray, List.set_cons_zero, List.set_cons_succ]
                  refine tu 13 49 rfl ?_
                  simp only [Act.put, List.setIfInBounds_toArray, List.set_cons_zero, List.set_cons_succ]
                  refine tu 14 50 rfl ?_
                  simp only [Act.put, List.setIfInBounds_toArray, List.set_cons_zero, List.set_cons_succ]
                  refine tu 15 51 rfl ?_
                  simp only [Act.put, List.setIfInBounds_toArray, List.set_cons_zero, List.set_cons_succ]
                  refine tu 16 52 rfl ?_
                  simp only [Act.put, List.setIfInBounds_toArray, List.set_cons_zero, List.set_cons_succ]
                  refine tu 17 53 rfl ?_
                  simp only [Act.put, List.setIfInBounds_toArray, List.set_cons_zero, List.set_cons_succ]
                  refine tu 18 54 rfl ?_
                  simp only [Act.put, List.setIfInBounds_toArray, List.set_cons_zero, List.set_cons_succ]
                  refine tu 19 55 rfl ?_
                  simp only [Act.put, List.setIfInBounds_toArray, List.set_cons_zero, List.set_cons_succ]
                  refine tu 20 56 rfl ?_
                  simp only [Act.put, List.setIfInBounds_toArray, List.set_cons_zero, List.set_cons_succ]
                  refine tu 21 57 rfl ?_
                  simp only [Act.put, List.setIfInBounds_toArray, List.set_cons_zero, List.set_cons_succ]
                  refine tk 22 58 (.bool true) rfl ?_ ?_
                  · intro W hSW; go_simp
                  simp only [Act.put, List.setIfInBounds_toArray, List.set_cons_zero, List.set_cons_succ]
                  refine wpAnyH_done (by kernel_rfl) ?_ _
                  clear hHeld
                  go_wp2_with fail
                  go_meet
                  exact ⟨rfl, HBd.out, HXd.out⟩
                · have hll := HLL.out
                  by_cases h0 : i = 0
                  · have hlo : lo = 0 := by rw [hll, if_pos h0]
                    have hz0 : ¬ 0 < i := by omega
                    have hbb : bb = false := by rw [Hbb.out]; simp; omega
                    subst hbb
                    clear hll hlo h0
                    refine tk 0 36 (.pointer (some ⟨X, 0, none⟩)) rfl ?_ ?_
                    · intro W hSW; go_simp
                    simp only [Act.put, List.setIfInBounds_toArray, List.set_cons_zero, List.set_cons_succ]
                    refine tk 1 37 (.int .i64 kr0) rfl ?_ ?_
                    · intro W hSW; obtain ⟨x0, x1⟩ := row2v hSW.2; go_simp
                    simp only [Act.put, List.setIfInBounds_toArray, List.set_cons_zero, List.set_cons_succ]
                    refine tk 2 38 (.bool false) rfl ?_ ?_
                    · intro W hSW; go_simp
                    simp only [Act.put, List.setIfInBounds_toArray, List.set_cons_zero, List.set_cons_succ]
                    refine tk 3 39 (.bool false) rfl ?_ ?_
                    · intro W hSW; go_simp
                    simp only [Act.put, List.setIfInBounds_toArray, List.set_cons_zero, List.set_cons_succ]
                    refine tk 4 40 (.pointer (some ⟨X, 0, none⟩)) rfl ?_ ?_
                    · intro W hSW; go_simp
                    simp only [Act.put, List.setIfInBounds_toArray, List.set_cons_zero, List.set_cons_succ]
                    refine tk 5 41 (.int .i64 kr0) rfl ?_ ?_
                    · intro W hSW; obtain ⟨x0, x1⟩ := row2v hSW.2; go_simp
                    simp only [Act.put, List.setIfInBounds_toArray, List.set_cons_zero, List.set_cons_succ]
                    refine tk 6 42 (.bool false) rfl ?_ ?_
                    · intro W hSW; go_simp
                    simp only [Act.put, List.setIfInBounds_toArray, List.set_cons_zero, List.set_cons_succ]
                    refine tk 7 43 (.bool false) rfl ?_ ?_
                    · intro W hSW; go_simp
                    simp only [Act.put, List.setIfInBounds_toArray, List.set_cons_zero, List.set_cons_succ]
                    refine tk 8 44 (.bool false) rfl ?_ ?_
                    · intro W hSW; go_simp
                    simp only [Act.put, List.setIfInBounds_toArray, List.set_cons_zero, List.set_cons_succ]
                    refine tk 9 45 (.int .i64 (i : Nat)) rfl ?_ ?_
                    · intro W hSW; go_simp
                    simp only [Act.put, List.setIfInBounds_toArray, List.set_cons_zero, List.set_cons_succ]
                    refine tk 10 46 (.bool false) rfl ?_ ?_
                    · intro W hSW; have h := hz0; go_simp
                    simp only [Act.put, List.setIfInBounds_toArray, List.set_cons_zero, List.set_cons_succ]
                    refine tk 11 47 (.bool false) rfl ?_ ?_
                    · intro W hSW; go_simp
                    simp only [Act.put, List.setIfInBounds_toArray, List.set_cons_zero, List.set_cons_succ]
                    refine tu 12 48 rfl ?_
                    simp only [Act.put, List.setIfInBounds_toArray, List.set_cons_zero, List.set_cons_succ]
                    refine tu 13 49 rfl ?_
                    simp only [Act.put, List.setIfInBounds_toArray, List.set_cons_zero, List.set_cons_succ]
                    refine tu 14 50 rfl ?_
                    simp only [Act.put, List.setIfInBounds_toArray, List.set_cons_zero, List.set_cons_succ]
                    refine tu 15 51 rfl ?_
                    simp only [Act.put, List.setIfInBounds_toArray, List.set_cons_zero, List.set_cons_succ]
                    refine tu 16 52 rfl ?_
                    simp only [Act.put, List.setIfInBounds_toArray, List.set_cons_zero, List.set_cons_succ]
                    refine tu 17 53 rfl ?_
                    simp only [Act.put, List.setIfInBounds_toArray, List.set_cons_zero, List.set_cons_succ]
                    refine tu 18 54 rfl ?_
                    simp only [Act.put, List.setIfInBounds_toArray, List.set_cons_zero, List.set_cons_succ]
                    refine tu 19 55 rfl ?_
                    simp only [Act.put, List.setIfInBounds_toArray, List.set_cons_zero, List.set_cons_succ]
                    refine tu 20 56 rfl ?_
                    simp only [Act.put, List.setIfInBounds_toArray, List.set_cons_zero, List.set_cons_succ]
                    refine tk 21 57 (.bool false) rfl ?_ ?_
                    · intro W hSW; go_simp
                    simp only [Act.put, List.setIfInBounds_toArray, List.set_cons_zero, List.set_cons_succ]
                    refine tk 22 58 (.bool false) rfl ?_ ?_
                    · intro W hSW; go_simp
                    simp only [Act.put, List.setIfInBounds_toArray, List.set_cons_zero, List.set_cons_succ]
                    refine wpAnyH_done (by kernel_rfl) ?_ _
                    clear hHeld
                    go_wp2_with fail
                    go_meet
                    exact ⟨rfl, HBd.out, HXd.out⟩
                  · obtain ⟨i1, Hi⟩ : ∃ i1, Hid (i = i1 + 1) := ⟨i - 1, by unfold Hid; omega⟩
                    have HC2 := hid (HPR.out (by omega))
                    rw [show i - 1 = i1 from by have := Hi.out; omega] at HC2
                    have hgt0 : 0 < i := by omega
                    have hsub : IntKind.i64.wrap ((i : Int) - 1) = (i1 : Int) := by have := Hi.out; rw [IntKind.wrap_i64]; omega
                    have hlt1 : i1 < s.n := by have := Hi.out; omega
                    clear hll h0
                    by_cases hle : kr0 ≤ lo - 1
                    · have hbb : bb = true := by rw [Hbb.out]; simp; omega
                      subst hbb
                      refine tk 0 36 (.pointer (some ⟨X, 0, none⟩)) rfl ?_ ?_
                      · intro W hSW; go_simp
                      simp only [Act.put, List.setIfInBounds_toArray, List.set_cons_zero, List.set_cons_succ]
                      refine tk 1 37 (.int .i64 kr0) rfl ?_ ?_
                      · intro W hSW; obtain ⟨x0, x1⟩ := row2v hSW.2; go_simp
                      simp only [Act.put, List.setIfInBounds_toArray, List.set_cons_zero, List.set_cons_succ]
                      refine tk 2 38 (.bool false) rfl ?_ ?_
                      · intro W hSW; go_simp
                      simp only [Act.put, List.setIfInBounds_toArray, List.set_cons_zero, List.set_cons_succ]
                      refine tk 3 39 (.bool false) rfl ?_ ?_
                      · intro W hSW; go_simp
                      simp only [Act.put, List.setIfInBounds_toArray, List.set_cons_zero, List.set_cons_succ]
                      refine tk 4 40 (.pointer (some ⟨X, 0, none⟩)) rfl ?_ ?_
                      · intro W hSW; go_simp
                      simp only [Act.put, List.setIfInBounds_toArray, List.set_cons_zero, List.set_cons_succ]
                      refine tk 5 41 (.int .i64 kr0) rfl ?_ ?_
                      · intro W hSW; obtain ⟨x0, x1⟩ := row2v hSW.2; go_simp
                      simp only [Act.put, List.setIfInBounds_toArray, List.set_cons_zero, List.set_cons_succ]
                      refine tk 6 42 (.bool false) rfl ?_ ?_
                      · intro W hSW; go_simp
                      simp only [Act.put, List.setIfInBounds_toArray, List.set_cons_zero, List.set_cons_succ]
                      refine tk 7 43 (.bool false) rfl ?_ ?_
                      · intro W hSW; go_simp
                      simp only [Act.put, List.setIfInBounds_toArray, List.set_cons_zero, List.set_cons_succ]
                      refine tk 8 44 (.bool false) rfl ?_ ?_
                      · intro W hSW; go_simp
                      simp only [Act.put, List.setIfInBounds_toArray, List.set_cons_zero, List.set_cons_succ]
                      refine tk 9 45 (.int .i64 (i : Nat)) rfl ?_ ?_
                      · intro W hSW; go_simp
                      simp only [Act.put, List.setIfInBounds_toArray, List.set_cons_zero, List.set_cons_succ]
                      refine tk 10 46 (.bool true) rfl ?_ ?_
                      · intro W hSW; have h := hgt0; go_simp
                      simp only [Act.put, List.setIfInBounds_toArray, List.set_cons_zero, List.set_cons_succ]
                      refine tk 11 47 (.bool true) rfl ?_ ?_
                      · intro W hSW; go_simp
                      simp only [Act.put, List.setIfInBounds_toArray, List.set_cons_zero, List.set_cons_succ]
                      refine tk 12 48 (.pointer (some ⟨X, 0, none⟩)) rfl ?_ ?_
                      · intro W hSW; go_simp
                      simp only [Act.put, List.setIfInBounds_toArray, List.set_cons_zero, List.set_cons_succ]
                      refine tk 13 49 (.int .i64 kr0) rfl ?_ ?_
                      · intro W hSW; obtain ⟨x0, x1⟩ := row2v hSW.2; go_simp
                      simp only [Act.put, List.setIfInBounds_toArray, List.set_cons_zero, List.set_cons_succ]
                      refine tk 14 50 (.slice (some ⟨P, o, none⟩) s.n s.c) rfl ?_ ?_
                      · intro W hSW; go_simp
                      simp only [Act.put, List.setIfInBounds_toArray, List.set_cons_zero, List.set_cons_succ]
                      refine tk 15 51 (.int .i64 (i : Nat)) rfl ?_ ?_
                      · intro W hSW; go_simp
                      simp only [Act.put, List.setIfInBounds_toArray, List.set_cons_zero, List.set_cons_succ]
                      refine tk 16 52 (.int .i64 (i1 : Nat)) rfl ?_ ?_
                      · intro W hSW; have h := hsub; go_simp
                      simp only [Act.put, List.setIfInBounds_toArray, List.set_cons_zero, List.set_cons_succ]
                      refine tk 17 53 (.pointer (some ⟨P, o + i1 * 2, none⟩)) rfl ?_ ?_
                      · intro W hSW; have h1 := hlt1; go_simp
                      simp only [Act.put, List.setIfInBounds_toArray, List.set_cons_zero, List.set_cons_succ]
                      refine tk 18 54 (.pointer (some ⟨P, o + i1 * 2, none⟩)) rfl ?_ ?_
                      · intro W hSW; go_simp
                      simp only [Act.put, List.setIfInBounds_toArray, List.set_cons_zero, List.set_cons_succ]
                      refine tk 19 55 (.int .i64 (lo - 1)) rfl ?_ ?_
                      · intro W hSW; have z := HC2.out W hSW.1; go_simp
                      simp only [Act.put, List.setIfInBounds_toArray, List.set_cons_zero, List.set_cons_succ]
                      refine tk 20 56 (.bool true) rfl ?_ ?_
                      · intro W hSW; go_simp
                      simp only [Act.put, List.setIfInBounds_toArray, List.set_cons_zero, List.set_cons_succ]
                      refine tk 21 57 (.bool true) rfl ?_ ?_
                      · intro W hSW; go_simp
                      simp only [Act.put, List.setIfInBounds_toArray, List.set_cons_zero, List.set_cons_succ]
                      refine tk 22 58 (.bool true) rfl ?_ ?_
                      · intro W hSW; go_simp
                      simp only [Act.put, List.setIfInBounds_toArray, List.set_cons_zero, List.set_cons_succ]
                      refine wpAnyH_done (by kernel_rfl) ?_ _
                      clear hHeld
                      go_wp2_with fail
                      go_meet
                      exact ⟨rfl, HBd.out, HXd.out⟩
                    · have hbb : bb = false := by rw [Hbb.out]; simp; omega
                      subst hbb
                      refine tk 0 36 (.pointer (some ⟨X, 0, none⟩)) rfl ?_ ?_
                      · intro W hSW; go_simp
                      simp only [Act.put, List.setIfInBounds_toArray, List.set_cons_zero, List.set_cons_succ]
                      refine tk 1 37 (.int .i64 kr0) rfl ?_ ?_
                      · intro W hSW; obtain ⟨x0, x1⟩ := row2v hSW.2; go_simp
                      simp only [Act.put, List.setIfInBounds_toArray, List.set_cons_zero, List.set_cons_succ]
                      refine tk 2 38 (.bool false) rfl ?_ ?_
                      · intro W hSW; go_simp
                      simp only [Act.put, List.setIfInBounds_toArray, List.set_cons_zero, List.set_cons_succ]
                      refine tk 3 39 (.bool false) rfl ?_ ?_
                      · intro W hSW; go_simp
                      simp only [Act.put, List.setIfInBounds_toArray, List.set_cons_zero, List.set_cons_succ]
                      refine tk 4 40 (.pointer (some ⟨X, 0, none⟩)) rfl ?_ ?_
                      · intro W hSW; go_simp
                      simp only [Act.put, List.setIfInBounds_toArray, List.set_cons_zero, List.set_cons_succ]
                      refine tk 5 41 (.int .i64 kr0) rfl ?_ ?_
                      · intro W hSW; obtain ⟨x0, x1⟩ := row2v hSW.2; go_simp
                      simp only [Act.put, List.setIfInBounds_toArray, List.set_cons_zero, List.set_cons_succ]
                      refine tk 6 42 (.bool false) rfl ?_ ?_
                      · intro W hSW; go_simp
                      simp only [Act.put, List.setIfInBounds_toArray, List.set_cons_zero, List.set_cons_succ]
                      refine tk 7 43 (.bool false) rfl ?_ ?_
                      · intro W hSW; go_simp
                      simp only [Act.put, List.setIfInBounds_toArray, List.set_cons_zero, List.set_cons_succ]
                      refine tk 8 44 (.bool false) rfl ?_ ?_
                      · intro W hSW; go_simp
                      simp only [Act.put, List.setIfInBounds_toArray, List.set_cons_zero, List.set_cons_succ]
                      refine tk 9 45 (.int .i64 (i : Nat)) rfl ?_ ?_
                      · intro W hSW; go_simp
                      simp only [Act.put, List.setIfInBounds_toArray, List.set_cons_zero, List.set_cons_succ]
                      refine tk 10 46 (.bool true) rfl ?_ ?_
                      · intro W hSW; have h := hgt0; go_simp
                      simp only [Act.put, List.setIfInBounds_toArray, List.set_cons_zero, List.set_cons_succ]
                      refine tk 11 47 (.bool true) rfl ?_ ?_
                      · intro W hSW; go_simp
                      simp only [Act.put, List.setIfInBounds_toArray, List.set_cons_zero, List.set_cons_succ]
                      refine tk 12 48 (.pointer (some ⟨X, 0, none⟩)) rfl ?_ ?_
                      · intro W hSW; go_simp
                      simp only [Act.put, List.setIfInBounds_toArray, List.set_cons_zero, List.set_cons_succ]
                      refine tk 13 49 (.int .i64 kr0) rfl ?_ ?_
                      · intro W hSW; obtain ⟨x0, x1⟩ := row2v hSW.2; go_simp
                      simp only [Act.put, List.setIfInBounds_toArray, List.set_cons_zero, List.set_cons_succ]
                      refine tk 14 50 (.slice (some ⟨P, o, none⟩) s.n s.c) rfl ?_ ?_
                      · intro W hSW; go_simp
                      simp only [Act.put, List.setIfInBounds_toArray, List.set_cons_zero, List.set_cons_succ]
                      refine tk 15 51 (.int .i64 (i : Nat)) rfl ?_ ?_
                      · intro W hSW; go_simp
                      simp only [Act.put, List.setIfInBounds_toArray, List.set_cons_zero, List.set_cons_succ]
                      refine tk 16 52 (.int .i64 (i1 : Nat)) rfl ?_ ?_
                      · intro W hSW; have h := hsub; go_simp
                      simp only [Act.put, List.setIfInBounds_toArray, List.set_cons_zero, List.set_cons_succ]
                      refine tk 17 53 (.pointer (some ⟨P, o + i1 * 2, none⟩)) rfl ?_ ?_
                      · intro W hSW; have h1 := hlt1; go_simp
                      simp only [Act.put, List.setIfInBounds_toArray, List.set_cons_zero, List.set_cons_succ]
                      refine tk 18 54 (.pointer (some ⟨P, o + i1 * 2, none⟩)) rfl ?_ ?_
                      · intro W hSW; go_simp
                      simp only [Act.put, List.setIfInBounds_toArray, List.set_cons_zero, List.set_cons_succ]
                      refine tk 19 55 (.int .i64 (lo - 1)) rfl ?_ ?_
                      · intro W hSW; have z := HC2.out W hSW.1; go_simp
                      simp only [Act.put, List.setIfInBounds_toArray, List.set_cons_zero, List.set_cons_succ]
                      refine tk 20 56 (.bool false) rfl ?_ ?_
                      · intro W hSW; go_simp
                      simp only [Act.put, List.setIfInBounds_toArray, List.set_cons_zero, List.set_cons_succ]
                      refine tk 21 57 (.bool false) rfl ?_ ?_
                      · intro W hSW; go_simp
                      simp only [Act.put, List.setIfInBounds_toArray, List.set_cons_zero, List.set_cons_succ]
                      refine tk 22 58 (.bool false) rfl ?_ ?_
                      · intro W hSW; go_simp
                      simp only [Act.put, List.setIfInBounds_toArray, List.set_cons_zero, List.set_cons_succ]
                      refine wpAnyH_done (by kernel_rfl) ?_ _
                      clear hHeld
                      go_wp2_with fail
                      go_meet
                      exact ⟨rfl, HBd.out, HXd.out⟩
            · obtain ⟨rfl, b7, x7⟩ := hcut
              have HB7 := hid b7
              have HX7 := hid x7
              clear b7 x7
              cases bb with
              | true =>
                have HE4 : Hid (eClocks (g0 : Int) cs = 40) := by unfold Hid; rw [HE.out]; exact HE3.out.1 (by have := Hbb.out; simp at this; omega)
                go_wp2_with fail
                go_ret2
                exact ⟨HB7.out.nw.ap, fun _ => by rw [HE4.out]; rfl, fun h => by rw [HE4.out] at h; exact absurd h (by decide)⟩
              | false =>
                have hin : lo ≤ kr0 ∧ kr0 ≤ 15 := by have := Hbb.out; simp at this; omega
                have hlr := HLR.out
                obtain ⟨kn, hkn⟩ := Int.eq_ofNat_of_zero_le (show 0 ≤ kr0 by omega)
                obtain ⟨v3, H3⟩ := bool_of (OkL 64 cset)
                replace H3 := hid H3
                have HIN := hid hin
                have HKN := hid hkn
                clear hin hkn hlr
                obtain ⟨x0, x1⟩ := row2v HX7.out
                go_wp2_with fail
                clear x0 x1
                refine (rSet_ok (c := kse.c) (HEA.out.2.1.kept0 HB7.out.nw.ap) v3 H3.out).mono ?_
                rintro _ w8 ⟨rfl, a8⟩
                have HB8 := hid (HB7.out.kept a8)
                have HX8 := hid (keep0 a8 HX7.out)
                clear a8
                dsimp only
                cases v3 with
                | false =>
                  have HE4 : Hid (eClocks (g0 : Int) cs = 30) := by unfold Hid; rw [HE.out]; exact HE3.out.2.1 HIN.out (fun hh => by have := H3.out.2 hh; cases this)
                  go_wp2_with fail
                  go_ret2
                  exact ⟨HB8.out.nw.ap, fun _ => by rw [HE4.out]; rfl, fun h => by rw [HE4.out] at h; exact absurd h (by decide)⟩
                | true =>
                  have hok := H3.out.1 rfl
                  have HOK := hid hok
                  have HE4 : Hid (eCls 0 cs = eCls (kr0 + 1) (cs.drop (i + 1))) := HE3.out.2.2 HIN.out hok
                  clear hok
                  have hkn := HKN.out
                  obtain ⟨x0, x1⟩ := row2v HX8.out
                  rw [hkn] at x0
                  go_wp2_with fail
                  clear x0 x1
                  refine (rnum_ok HB8.out kn 1 (by have := HIN.out; omega) (by omega) (by have := HLE.out; omega)).mono ?_
                  rintro _ w9 ⟨t9, rfl, b9, g9⟩
                  have HB9 := hid b9
                  have HX9 := hid (g9.block HB8.out HX8.out (by decide))
                  clear b9 g9
                  dsimp only
                  obtain ⟨x0, x1⟩ := row2v HX9.out
                  go_wp2_with fail
                  clear x0 x1
                  refine (rset_ok (c := kse.c) HB9.out HEA.out.2.1 HOK.out (by rw [List.length_append, encN_len]; have := HLE.out; omega)).mono ?_
                  rintro _ w10 ⟨t10, rfl, b10, _⟩
                  have HB10 := hid b10
                  clear b10
                  dsimp only
                  have HNX : Hid (QI w w10 cs vs5 t10 (i + 1) (kr0 + 1)) := by
                    refine ⟨?_, HE4.out, ?_, by have := HIN.out; have := HLR.out; omega, ?_⟩
                    · rw [HES.out]
                      unfold encCl
                      dsimp only
                      rw [show kr0.toNat = kn from by omega, ← List.append_assoc]
                      exact HB10.out
                    · rw [if_neg (by omega), Nat.add_sub_cancel, Hcx.out]
                    · intro c hc
                      have hil : i < cs.length := by omega
                      rw [List.take_succ_eq_append_getElem hil] at hc
                      rcases List.mem_append.1 hc with hc | hc
                      · exact HQ.out.x c hc
                      · simp at hc
                        rw [hc]
                        have he : cs[i] = gC cs i := by unfold gC; rw [List.getD_eq_getElem?_getD, List.getElem?_eq_getElem hil]; rfl
                        rw [he, Hcx.out]; exact HOK.out.le8
                  clear hkn
                  go_wp2_with fail
                  go_roundw
                  case rel => exact ⟨i + 1, t10, kr0 + 1, rfl, by go_num, by omega, HNX.out⟩
                  case measure => simp [intOf]; omega
          · have hlti : ¬ ((i : Nat) : Int) < (s.n : Int) := by omega
            have hiN : cs.take i = cs := List.take_of_length_le (by omega)
            have HB11 : Hid (Bf w wr t (vs5 ++ encCls (clOf cs))) := by unfold Hid; have := HQ.out.b; rw [hiN] at this; exact this
            have HE4 : Hid (eClocks (g0 : Int) cs = 0) := by unfold Hid; rw [HE.out, HQ.out.e, List.drop_eq_nil_of_le (by omega)]; rfl
            have HEN : Hid (encPc (pcC (g0 : Int) cs) = vs5 ++ encCls (clOf cs)) := by
              unfold Hid
              rw [← Hvs5.out, ← Hvs4.out]
              unfold pcC encPc
              dsimp only
              rw [Int.toNat_natCast, encN1 (show 1 < 256 by omega), show (clOf cs).length = s.n from by unfold clOf; rw [List.length_map, hcl]]
              simp only [List.append_assoc]
            have HLX : Hid ((vs5 ++ encCls (clOf cs)).length ≤ 2048) := by unfold Hid; rw [← HEN.out]; have := encPc_le (VPc_C HE4.out); omega
            rw [← HEN.out] at HB11 HLX
            clear hiN
            go_wp2_with fail
            refine (rfilled_ok HB11.out HLX.out).mono ?_
            rintro _ w12 ⟨t12, rfl, b12, _⟩
            have HB12 := hid b12
            clear b12
            dsimp only
            go_wp2_with fail
            go_ret2
            exact ⟨HB12.out.nw.ap, fun h => absurd HE4.out h, fun _ => ⟨t12, rfl, HB12.out⟩⟩
end Go.Proofs.Ytllhmidpphlbhaa.ds
