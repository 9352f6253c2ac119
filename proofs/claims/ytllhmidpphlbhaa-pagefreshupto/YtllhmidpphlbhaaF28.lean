import Derived.Deep.RegionHeld
import Derived.OrdersHeld
import Derived.WalkKit
import Derived.ProofKit
import Derived.Lib.TrailingZeros
import Derived.Test.YtllhmidpphlbhaaChecked
import Derived.OpenShut
import Derived.Deep.QuietTactic
import Derived.BigQuiet
import Derived.BigRegion
import Derived.Laws.CopyOwn
import Derived.Laws.Bits64b
import Derived.Laws.MathBits
import Derived.Laws.ShiftsVarLaws
import Derived.WalkSmall
import Derived.Laws.ResultCell
import Derived.Lib.BitFns
import Derived.Laws.StructEq
import Derived.ArgAppend
import Derived.Deep.RegionLaw
import Derived.Deep.DeepAppendRoom
import Derived.Sort.WalkA
import Derived.Laws.Strings
import Derived.Deep.CutBlock
import Derived.Great.BuildSlice
import Derived.Laws.AppendOwnNone
import Derived.Lib.Overlaps
import Derived.Lib.AppendZerosOnto
import Derived.Laws.NewBlocks
import Derived.Laws.Externs
import Derived.Laws.IdiomCopy
import Derived.Laws.BytesString
import Derived.Deep.CutRange
import Derived.RangeFuncNested
import Derived.RangeFuncBound
import Derived.RangeFuncCalls
import Derived.RangeFuncLeaves
import Derived.Shelf.Abstract
import Derived.Shelf.RegionOpen
import Derived.OwnWalkIn
import Derived.TacticsInMore
import Derived.LoopNIn
import Derived.LoopIn
import GoSem.Claim
import GoSem.ClaimJoined
import GoSem.ClaimMapViews
import Derived.JoinedTies
import Derived.KernelRfl
import Derived.Deep.OwnRows
import Derived.Lib.LaidTab
import Derived.JoinedCond
import Derived.ShutString
import Derived.ChangeOld
import Derived.Below
import Derived.Carry
import Derived.ChangeSlices
import Derived.Deep.Slices
import Derived.Deep.DeepHandedRow
import Derived.RowKit
import Derived.ChangeShapes
import Derived.SizedLaws
import Derived.ChangeMaps5
import Derived.Lib.Walk
import Derived.Lib.SliceRun
import Derived.Lib.AppendStr
import Derived.Lib.ConvBytes
import Derived.Deep.RegionHeld3
import Derived.Deep.MidRow
import Derived.Laws.MakeOwn
import Derived.Lib.SlBytesConst
import Derived.Test.YtllhmidpphlbhaaRows
import Derived.Test.YtllhmidpphlbhaaF24
namespace Go.Proofs.Ytllhmidpphlbhaa.ds
open Go.ChangeShapes Go.WideShapes Go.ChangeAt Go.RowKit Go.Sort
set_option linter.unusedVariables false
set_option linter.unusedSimpArgs false

/-- the walk of the document's siblings -/
structure UI (w wt : World) (rs : List Wr) (k : ByteArray) (vs : List Nat) (t : Sl) (i : Nat) (an ac : Int) : Prop where
  b : Bf w wt t (vs ++ encPws ((rs.take i).map cwOf))
  e : eKeys k 0 0 rs = eKeys k an ac (rs.drop i)
  l : i = 0 → an = 0 ∧ ac = 0
  m : 0 < i → (gR rs (i - 1)).n = an ∧ (gR rs (i - 1)).c = ac
  x : ∀ r ∈ rs.take i, Stor r
set_option maxHeartbeats 8000000 in
set_option maxRecDepth 100000 in
theorem rbuildKey_ok {w : World} (s : Sl) (es : List E) (rs : List Wr) (h : RWs w s es rs) : Calls Try.prog 61 #[.slice s.p s.n s.c] w fun q w' => RO w w' q (eKey rs) (pcK rs) := by
  have HC := hid h
  have hlim := h.lim
  have hrl := h.rl
  clear h
  by_cases h0 : s.n = 0
  · have h0i : ((s.n : Nat) : Int) = 0 := by omega
    have HE : Hid (eKey rs = 1) := by
      unfold Hid
      have : rs = [] := List.length_eq_zero_iff.1 (by omega)
      rw [this]; rfl
    go_enter Try.func61, Try.ntmps61
    go_wp2_with fail
    go_ret2
    exact ⟨Apart.refl _ _, fun _ => by rw [HE.out]; rfl, fun h => by rw [HE.out] at h; exact absurd h (by decide)⟩
  · have h0i : ¬ ((s.n : Nat) : Int) = 0 := by omega
    obtain ⟨k0, Hk0⟩ : ∃ k0, Hid (k0 = (gR rs 0).k) := ⟨_, rfl⟩
    have HEK : Hid (eKey rs = if s.n ≤ 8 then (if 1 ≤ k0.size ∧ k0.size ≤ 16 then eKeys k0 0 0 rs else 50) else 71) := by
      unfold Hid
      cases rs with
      | nil => simp at hrl; omega
      | cons r l =>
        have e1 : (gR (r :: l) 0).k = r.k := rfl
        show eKey1 r l = _
        unfold eKey1
        rw [Hk0.out, e1, hrl]
    by_cases h8 : s.n > 8
    · have h8i : ((s.n : Nat) : Int) > 8 := by omega
      have HE : Hid (eKey rs = 71) := by unfold Hid; rw [HEK.out, if_neg (by omega)]
      go_enter Try.func61, Try.ntmps61
      go_wp2_with fail
      go_ret2
      exact ⟨Apart.refl _ _, fun _ => by rw [HE.out]; rfl, fun h => by rw [HE.out] at h; exact absurd h (by decide)⟩
    · have h8i : ¬ ((s.n : Nat) : Int) > 8 := by omega
      obtain ⟨P, o, hP, hPl, -, -, c2, -, -, -⟩ := HC.out.cells 0 (by omega)
      have hk := (HC.out.each 0 (by omega)).k
      rw [hk, ← Hk0.out] at c2
      have c2' : w.cell? ⟨P, o + 2, none⟩ = some (.string k0) := by simpa using c2
      obtain ⟨sp, sn, sc⟩ := s
      dsimp only at *
      subst hP
      obtain ⟨v1, H1⟩ := bool_of (1 ≤ k0.size ∧ k0.size ≤ 16)
      replace H1 := hid H1
      go_enter Try.func61, Try.ntmps61
      go_wp2_with fail
      clear c2 c2' hk
      refine (keyed_ok w k0 v1 H1.out).mono ?_
      rintro _ wq ⟨rfl, hwq⟩
      rw [hwq]
      clear hwq wq
      dsimp only
      cases v1 with
      | false =>
        have HE : Hid (eKey rs = 50) := by unfold Hid; rw [HEK.out, if_pos (by omega), if_neg (fun hh => by have := H1.out.2 hh; cases this)]
        go_wp2_with fail
        go_ret2
        exact ⟨Apart.refl _ _, fun _ => by rw [HE.out]; rfl, fun h => by rw [HE.out] at h; exact absurd h (by decide)⟩
      | true =>
        have HKL := hid (H1.out.1 rfl)
        have HE : Hid (eKey rs = eKeys k0 0 0 rs) := by unfold Hid; rw [HEK.out, if_pos (by omega), if_pos HKL.out]
        have HB2 : Hid (Bf w (w.alloc (.cells #[.int .u8 ((2 : Nat) : Int)] 5)) ⟨some ⟨w.heap.size, 0, none⟩, 1, 1⟩ [2]) := Bf.made w 2
        obtain ⟨w3, hw3⟩ : ∃ W, W = w.alloc (.cells #[.int .u8 2] 5) := ⟨_, rfl⟩
        rw [show ((2 : Nat) : Int) = 2 from rfl, ← hw3] at HB2
        obtain ⟨s2, Hs2⟩ : ∃ s2 : Sl, Hid (s2 = ⟨some ⟨w.heap.size, 0, none⟩, 1, 1⟩) := ⟨_, rfl⟩
        rw [← Hs2.out] at HB2
        have HC1 := hid (rkey_ok HB2.out k0 (by have := HKL.out; omega) (by simp))
        rw [Hs2.out] at HC1
        go_wp2_with fail
        rw [← hw3]
        clear hw3
        refine HC1.out.mono ?_
        rintro _ w4 ⟨t4, rfl, b4, _⟩
        have HB4 := hid b4
        clear b4 HC1
        dsimp only
        have HL4 : Hid (([2] ++ (encN 1 (bsk k0).length ++ bsk k0)).length ≤ 18) := by unfold Hid; rw [List.length_append, List.length_append, encN_len, bsk_len]; have := HKL.out; simp; omega
        generalize hvs4 : [2] ++ (encN 1 (bsk k0).length ++ bsk k0) = vs4 at *
        have Hvs4 := hid hvs4
        clear hvs4
        go_wp2_with fail
        refine (rnum_ok HB4.out sn 1 (by omega) (by omega) (by have := HL4.out; omega)).mono ?_
        rintro _ w5 ⟨t5, rfl, b5, _⟩
        have HB5 := hid b5
        clear b5
        dsimp only
        have HL5 : Hid ((vs4 ++ encN 1 sn).length ≤ 19) := by unfold Hid; rw [List.length_append, encN_len]; have := HL4.out; omega
        generalize hvs5 : vs4 ++ encN 1 sn = vs5 at *
        have Hvs5 := hid hvs5
        clear hvs5
        go_wp2_with fail
        go_loopw [6, 7, 8] (fun a b _ wt => ∃ (i : Nat) (t : Sl) (an ac : Int), a = .slice t.p t.n t.c ∧ b = .int .i64 (i : Nat) ∧ i ≤ sn ∧ UI w wt rs k0 vs5 t i an ac) (fun _ b _ _ => sn - (intOf b).toNat)
        case atStart => exact ⟨0, t5, 0, 0, rfl, rfl, Nat.zero_le _, by simpa [encPws] using HB5.out, rfl, fun _ => ⟨rfl, rfl⟩, fun h => absurd h (by omega), by simp⟩
        case round =>
          obtain ⟨i, t, an, ac, rfl, rfl, hi, hQ⟩ := hrel
          have HQ := hid hQ
          clear hQ
          by_cases hlt : i < sn
          · have hlti : ((i : Nat) : Int) < (sn : Int) := by omega
            have HCE : Hid (∀ W, Apart [] w W → (W.cell? ⟨P, o + i * 6, none⟩ = some (.int .i64 (gE es i).n) ∧ W.cell? ⟨P, o + i * 6 + 1, none⟩ = some (.int .i64 (gE es i).c) ∧ W.cell? ⟨P, o + i * 6 + 2, none⟩ = some (.string (gE es i).k) ∧ W.cell? ⟨P, o + i * 6 + 3, none⟩ = some (.bool (gE es i).d) ∧ W.cell? ⟨P, o + i * 6 + 4, none⟩ = some (.slice (gE es i).v.p (gE es i).v.n (gE es i).v.c) ∧ W.cell? ⟨P, o + i * 6 + 5, none⟩ = some (.slice (gE es i).x.p (gE es i).x.n (gE es i).x.c)) ∧ (0 < i → W.cell? ⟨P, o + (i - 1) * 6, none⟩ = some (.int .i64 an) ∧ W.cell? ⟨P, o + (i - 1) * 6 + 1, none⟩ = some (.int .i64 ac))) := fun W aw => by
              obtain ⟨P', o', hP', _, d⟩ := (HC.out.kept0 aw).cells i hlt
              dsimp only at hP'
              simp only [Option.some.injEq, Addr.mk.injEq] at hP'
              obtain ⟨rfl, rfl, -⟩ := hP'
              refine ⟨d, fun hp => ?_⟩
              obtain ⟨P', o', hP', _, d0, d1, _⟩ := (HC.out.kept0 aw).cells (i - 1) (by dsimp only; omega)
              dsimp only at hP'
              simp only [Option.some.injEq, Addr.mk.injEq] at hP'
              obtain ⟨rfl, rfl, -⟩ := hP'
              have hr := HC.out.each (i - 1) (by dsimp only; omega)
              have hm := HQ.out.m hp
              exact ⟨by rw [d0, hr.n, hm.1], by rw [d1, hr.c, hm.2]⟩
            have HRe := hid (HC.out.each i hlt)
            have HE3 := hid (eKeys_cons k0 an ac (gR rs i) (rs.drop (i + 1)))
            rw [← dropR_g (by omega), ← HQ.out.e] at HE3
            have HES : Hid (vs5 ++ encPws ((rs.take (i + 1)).map cwOf) = (vs5 ++ encPws ((rs.take i).map cwOf)) ++ encPw (cwOf (gR rs i))) := by unfold Hid; rw [takeR_g (by omega), encPws_snoc, List.append_assoc]
            have HLE : Hid ((vs5 ++ encPws ((rs.take i).map cwOf)).length ≤ 100000) := by
              unfold Hid
              have := encPws_lim (l := rs.take i) HQ.out.x
              rw [List.length_take] at this
              rw [List.length_append]
              have := HL5.out
              omega
            have HBq := hid HQ.out.b
            have HQl := hid HQ.out.l
            have HQx := hid HQ.out.x
            have HGI : Hid (∀ r, gR rs i = r → Stor r → (∀ y ∈ rs.take (i + 1), Stor y) ∧ (gR rs (i + 1 - 1)).n = r.n ∧ (gR rs (i + 1 - 1)).c = r.c) := fun r hr hs => by
              rw [Nat.add_sub_cancel, hr]
              refine ⟨fun y hy => ?_, rfl, rfl⟩
              have hil : i < rs.length := by omega
              rw [List.take_succ_eq_append_getElem hil] at hy
              rcases List.mem_append.1 hy with hy | hy
              · exact HQx.out y hy
              · simp at hy
                have he : rs[i] = gR rs i := by unfold gR; rw [List.getD_eq_getElem?_getD, List.getElem?_eq_getElem hil]; rfl
                rw [hy, he, hr]; exact hs
            generalize gE es i = e at *
            generalize hgr : gR rs i = r at *
            replace HGI := hid (HGI.out r rfl)
            clear hgr
            have hek : e.k = r.k := HRe.out.k
            have hen : e.n = r.n := HRe.out.n
            have hec : e.c = r.c := HRe.out.c
            rw [← hek, ← hen, ← hec] at HE3
            have HEN0 : Hid (e.n = r.n ∧ e.c = r.c) := ⟨hen, hec⟩
            clear hek hen hec
            generalize vs5 ++ encPws ((rs.take i).map cwOf) = ws at *
            obtain ⟨ne, Hne⟩ : ∃ ne : Bool, Hid (ne = true ↔ e.k ≠ k0) := bool_of _
            have HNE : Hid ((e.k.toList == k0.toList) = !ne) := by
              unfold Hid
              have := Hne.out
              by_cases hk : e.k = k0
              · cases ne with
                | false => simp [hk]
                | true => exact absurd hk (this.1 rfl)
              · rw [this.2 hk]
                simp only [Bool.not_true, beq_eq_false_iff_ne, ne_eq]
                exact fun h => hk (toList_inj' h)
            obtain ⟨⟨c0, c1, c2, c3, c4, c5⟩, _⟩ := HCE.out wr HBq.out.nw.ap
            have hne := HNE.out
            cases ne with
            | true =>
              have HE4 : Hid (eKey rs = 50) := by unfold Hid; rw [HE.out]; exact HE3.out.1 (Hne.out.1 rfl)
              go_wp2_with fail
              go_ret2
              exact ⟨HBq.out.nw.ap, fun _ => by rw [HE4.out]; rfl, fun h => by rw [HE4.out] at h; exact absurd h (by decide)⟩
            | false =>
              have HKE : Hid (e.k = k0) := by
                unfold Hid
                by_cases hk : e.k = k0
                · exact hk
                · have := Hne.out.2 hk; cases this
              obtain ⟨v3, H3⟩ := bool_of (Stor r)
              replace H3 := hid H3
              go_wp2_with fail
              clear c0 c1 c2 c3 c4 c5 hne
              refine (rStor_ok e r (HRe.out.kept0 HBq.out.nw.ap) v3 H3.out).mono ?_
              rintro _ w8 ⟨rfl, a8⟩
              have HB8 := hid (HBq.out.kept a8)
              clear a8
              dsimp only
              cases v3 with
              | false =>
                have HE4 : Hid (eKey rs = 52) := by unfold Hid; rw [HE.out]; exact HE3.out.2.1 HKE.out (fun hh => by have := H3.out.2 hh; cases this)
                go_wp2_with fail
                go_ret2
                exact ⟨HB8.out.nw.ap, fun _ => by rw [HE4.out]; rfl, fun h => by rw [HE4.out] at h; exact absurd h (by decide)⟩
              | true =>
                have HST := hid (H3.out.1 rfl)
                obtain ⟨bb, Hbb⟩ : ∃ bb : Bool, Hid (bb = true ↔ (0 < i ∧ ¬ (e.n > an ∨ (e.n = an ∧ e.c > ac)))) := bool_of _
                go_upto_region 19 with fail
                go_cut [66] from 50 to 65 (fun u wx => u = .bool bb ∧ Bf w wx t ws)
                · have HBd := hid (HB8.out.kept (Apart.refl [] w8).drew)
                  refine wp_region_held_drew (S := fun W => Apart [] w W) (by kernel_rfl) HBd.out.nw.ap (fun hHeld => ?_)
                  generalize w8.drew = wd at *
                  by_cases hi0 : 0 < i
                  · have hgt0 : 0 < i := hi0
                    obtain ⟨i1, Hi⟩ : ∃ i1, Hid (i = i1 + 1) := ⟨i - 1, by unfold Hid; omega⟩
                    have hsub : IntKind.i64.wrap ((i : Int) - 1) = (i1 : Int) := by have := Hi.out; rw [IntKind.wrap_i64]; omega
                    have hlt1 : i1 < sn := by have := Hi.out; omega
                    have HC2 : Hid (∀ W, Apart [] w W → W.cell? ⟨P, o + i * 6, none⟩ = some (.int .i64 e.n) ∧ W.cell? ⟨P, o + i * 6 + 1, none⟩ = some (.int .i64 e.c) ∧ W.cell? ⟨P, o + i1 * 6, none⟩ = some (.int .i64 an) ∧ W.cell? ⟨P, o + i1 * 6 + 1, none⟩ = some (.int .i64 ac)) := fun W aw => by
                      have h := HCE.out W aw
                      have h2 := h.2 hi0
                      rw [show i - 1 = i1 from by have := Hi.out; omega] at h2
                      exact ⟨h.1.1, h.1.2.1, h2.1, h2.2⟩
                    clear hi0
                    obtain ⟨v4, H4⟩ := bool_of (e.n > an ∨ (e.n = an ∧ e.c > ac))
                    replace H4 := hid H4
                    have hbb : bb = !v4 := by
                      have h4 := H4.out
                      have hb := Hbb.out
                      cases v4 with
                      | true =>
                        have := h4.1 rfl
                        cases bb with
                        | false => rfl
                        | true => exact absurd this (hb.1 rfl).2
                      | false =>
                        exact hb.2 ⟨hgt0, fun hh => by have := h4.2 hh; cases this⟩
                    refine tk 0 50 (.int .i64 (i : Nat)) rfl ?_ ?_
                    · intro W hSW; go_simp
                    simp only [Act.put, List.setIfInBounds_toArray, List.set_cons_zero, List.set_cons_succ]
                    refine tk 1 51 (.bool true) rfl ?_ ?_
                    · intro W hSW; have h := hgt0; go_simp
                    simp only [Act.put, List.setIfInBounds_toArray, List.set_cons_zero, List.set_cons_succ]
                    refine tk 2 52 (.bool true) rfl ?_ ?_
                    · intro W hSW; go_simp
                    simp only [Act.put, List.setIfInBounds_toArray, List.set_cons_zero, List.set_cons_succ]
                    refine tk 3 53 (.slice (some ⟨P, o, none⟩) sn sc) rfl ?_ ?_
                    · intro W hSW; go_simp
                    simp only [Act.put, List.setIfInBounds_toArray, List.set_cons_zero, List.set_cons_succ]
                    refine tk 4 54 (.int .i64 (i : Nat)) rfl ?_ ?_
                    · intro W hSW; go_simp
                    simp only [Act.put, List.setIfInBounds_toArray, List.set_cons_zero, List.set_cons_succ]
                    refine tk 5 55 (.pointer (some ⟨P, o + i * 6, none⟩)) rfl ?_ ?_
                    · intro W hSW; have h := hlti; go_simp
                    simp only [Act.put, List.setIfInBounds_toArray, List.set_cons_zero, List.set_cons_succ]
                    refine tk 6 56 (.pointer (some ⟨P, o + i * 6, none⟩)) rfl ?_ ?_
                    · intro W hSW; go_simp
                    simp only [Act.put, List.setIfInBounds_toArray, List.set_cons_zero, List.set_cons_succ]
                    refine tk 7 57 (.agg #[.int .i64 e.n, .int .i64 e.c]) rfl ?_ ?_
                    · intro W hSW; obtain ⟨z0, z1, z2, z3⟩ := HC2.out W hSW; go_simp
                    simp only [Act.put, List.setIfInBounds_toArray, List.set_cons_zero, List.set_cons_succ]
                    refine tk 8 58 (.slice (some ⟨P, o, none⟩) sn sc) rfl ?_ ?_
                    · intro W hSW; go_simp
                    simp only [Act.put, List.setIfInBounds_toArray, List.set_cons_zero, List.set_cons_succ]
                    refine tk 9 59 (.int .i64 (i : Nat)) rfl ?_ ?_
                    · intro W hSW; go_simp
                    simp only [Act.put, List.setIfInBounds_toArray, List.set_cons_zero, List.set_cons_succ]
                    refine tk 10 60 (.int .i64 (i1 : Nat)) rfl ?_ ?_
                    · intro W hSW; have h := hsub; go_simp
                    simp only [Act.put, List.setIfInBounds_toArray, List.set_cons_zero, List.set_cons_succ]
                    refine tk 11 61 (.pointer (some ⟨P, o + i1 * 6, none⟩)) rfl ?_ ?_
                    · intro W hSW; have h := hlt1; go_simp
                    simp only [Act.put, List.setIfInBounds_toArray, List.set_cons_zero, List.set_cons_succ]
                    refine tk 12 62 (.pointer (some ⟨P, o + i1 * 6, none⟩)) rfl ?_ ?_
                    · intro W hSW; go_simp
                    simp only [Act.put, List.setIfInBounds_toArray, List.set_cons_zero, List.set_cons_succ]
                    refine tk 13 63 (.agg #[.int .i64 an, .int .i64 ac]) rfl ?_ ?_
                    · intro W hSW; obtain ⟨z0, z1, z2, z3⟩ := HC2.out W hSW; go_simp
                    simp only [Act.put, List.setIfInBounds_toArray, List.set_cons_zero, List.set_cons_succ]
                    refine wpAnyH_ready (rs := [14]) (by kernel_rfl) (by simp) ?_
                    refine AllReadyH.cons rfl (fun KK hKK => ?_) AllReadyH.nil
                    go_simp
                    refine (above_ok wd e.n e.c an ac v4 H4.out).mono ?_
                    rintro _ w9 ⟨rfl, a9⟩
                    have HB9 := hid (HBd.out.kept a9)
                    clear a9
                    dsimp only
                    refine hKK.out _ _ HB9.out.nw.ap (fun hHeld => ?_)
                    clear hKK KK
                    try simp only [Act.put, List.setIfInBounds_toArray, List.set_cons_zero, List.set_cons_succ]
                    cases v4 with
                    | true =>
                      subst hbb
                      refine tk 15 65 (.bool false) rfl ?_ ?_
                      · intro W hSW; go_simp
                      simp only [Act.put, List.setIfInBounds_toArray, List.set_cons_zero, List.set_cons_succ]
                      refine tk 16 66 (.bool false) rfl ?_ ?_
                      · intro W hSW; go_simp
                      simp only [Act.put, List.setIfInBounds_toArray, List.set_cons_zero, List.set_cons_succ]
                      refine wpAnyH_done (by kernel_rfl) ?_ _
                      clear hHeld
                      go_wp2_with fail
                      go_meet
                      exact ⟨rfl, HB9.out⟩
                    | false =>
                      subst hbb
                      refine tk 15 65 (.bool true) rfl ?_ ?_
                      · intro W hSW; go_simp
                      simp only [Act.put, List.setIfInBounds_toArray, List.set_cons_zero, List.set_cons_succ]
                      refine tk 16 66 (.bool true) rfl ?_ ?_
                      · intro W hSW; go_simp
                      simp only [Act.put, List.setIfInBounds_toArray, List.set_cons_zero, List.set_cons_succ]
                      refine wpAnyH_done (by kernel_rfl) ?_ _
                      clear hHeld
                      go_wp2_with fail
                      go_meet
                      exact ⟨rfl, HB9.out⟩
                  · have hz0 : ¬ 0 < i := hi0
                    have hbb : bb = false := by
                      cases hb : bb with
                      | false => rfl
                      | true => exact absurd (Hbb.out.1 hb).1 hi0
                    subst hbb
                    clear hi0
                    refine tk 0 50 (.int .i64 (i : Nat)) rfl ?_ ?_
                    · intro W hSW; go_simp
                    simp only [Act.put, List.setIfInBounds_toArray, List.set_cons_zero, List.set_cons_succ]
                    refine tk 1 51 (.bool false) rfl ?_ ?_
                    · intro W hSW; have h := hz0; go_simp
                    simp only [Act.put, List.setIfInBounds_toArray, List.set_cons_zero, List.set_cons_succ]
                    refine tk 2 52 (.bool false) rfl ?_ ?_
                    · intro W hSW; go_simp
                    simp only [Act.put, List.setIfInBounds_toArray, List.set_cons_zero, List.set_cons_succ]
                    refine tu 3 53 rfl ?_
                    simp only [Act.put, List.setIfInBounds_toArray, List.set_cons_zero, List.set_cons_succ]
                    refine tu 4 54 rfl ?_
                    simp only [Act.put, List.setIfInBounds_toArray, List.set_cons_zero, List.set_cons_succ]
                    refine tu 5 55 rfl ?_
                    simp only [Act.put, List.setIfInBounds_toArray, List.set_cons_zero, List.set_cons_succ]
                    refine tu 6 56 rfl ?_
                    simp only [Act.put, List.setIfInBounds_toArray, List.set_cons_zero, List.set_cons_succ]
                    refine tu 7 57 rfl ?_
                    simp only [Act.put, List.setIfInBounds_toArray, List.set_cons_zero, List.set_cons_succ]
                    refine tu 8 58 rfl ?_
                    simp only [Act.put, List.setIfInBounds_toArray, List.set_cons_zero, List.set_cons_succ]
                    refine tu 9 59 rfl ?_
                    simp only [Act.put, List.setIfInBounds_toArray, List.set_cons_zero, List.set_cons_succ]
                    refine tu 10 60 rfl ?_
                    simp only [Act.put, List.setIfInBounds_toArray, List.set_cons_zero, List.set_cons_succ]
                    refine tu 11 61 rfl ?_
                    simp only [Act.put, List.setIfInBounds_toArray, List.set_cons_zero, List.set_cons_succ]
                    refine tu 12 62 rfl ?_
                    simp only [Act.put, List.setIfInBounds_toArray, List.set_cons_zero, List.set_cons_succ]
                    refine tu 13 63 rfl ?_
                    simp only [Act.put, List.setIfInBounds_toArray, List.set_cons_zero, List.set_cons_succ]
                    refine wpAnyH_pass 14 (o := ⟨some 64, _, _, _, _, _⟩) (by kernel_rfl) rfl (by kernel_rfl) (by assumption) ?_
                    simp only [Act.put, List.setIfInBounds_toArray, List.set_cons_zero, List.set_cons_succ]
                    refine tu 15 65 rfl ?_
                    simp only [Act.put, List.setIfInBounds_toArray, List.set_cons_zero, List.set_cons_succ]
                    refine tk 16 66 (.bool false) rfl ?_ ?_
                    · intro W hSW; go_simp
                    simp only [Act.put, List.setIfInBounds_toArray, List.set_cons_zero, List.set_cons_succ]
                    refine wpAnyH_done (by kernel_rfl) ?_ _
                    clear hHeld
                    go_wp2_with fail
                    go_meet
                    exact ⟨rfl, HBd.out⟩
                · obtain ⟨rfl, b10⟩ := hcut
                  have HB10 := hid b10
                  clear b10
                  have HSN := hid HST.out.n
                  have HSC := hid HST.out.c
                  cases bb with
                  | true =>
                    have HE4 : Hid (eKey rs = 1) := by
                      unfold Hid; rw [HE.out]
                      refine HE3.out.2.2.1 HKE.out HST.out (fun hh => ?_)
                      have hb := (Hbb.out.1 rfl).2
                      have h1 := hh.2
                      unfold leastI at h1
                      by_cases hq : e.n = an
                      · rw [if_pos hq] at h1; exact hb (.inr ⟨hq, by omega⟩)
                      · exact hb (.inl (by have := hh.1; omega))
                    go_wp2_with fail
                    go_ret2
                    exact ⟨HB10.out.nw.ap, fun _ => by rw [HE4.out]; rfl, fun h => by rw [HE4.out] at h; exact absurd h (by decide)⟩
                  | false =>
                    have HE4 : Hid (eKeys k0 0 0 rs = eKeys k0 e.n e.c (rs.drop (i + 1))) := by
                      unfold Hid
                      refine HE3.out.2.2.2 HKE.out HST.out ?_
                      have hs1 := HSN.out
                      have hs2 := HSC.out
                      rw [← HEN0.out.1] at hs1
                      rw [← HEN0.out.2] at hs2
                      unfold leastI
                      by_cases hi0 : 0 < i
                      · have hb : e.n > an ∨ (e.n = an ∧ e.c > ac) := by
                          by_cases hq : e.n > an ∨ (e.n = an ∧ e.c > ac)
                          · exact hq
                          · have := Hbb.out.2 ⟨hi0, hq⟩; cases this
                        split <;> omega
                      · have hl := HQl.out (by omega)
                        split <;> omega
                    obtain ⟨⟨c0, c1, c2, c3, c4, c5⟩, _⟩ := HCE.out wc HB10.out.nw.ap
                    go_wp2_with fail
                    clear c0 c1 c2 c3 c4 c5
                    refine (rwr_ok HB10.out e r HRe.out HST.out HLE.out).mono ?_
                    rintro _ w11 ⟨t11, rfl, b11, _⟩
                    have HNX : Hid (UI w w11 rs k0 vs5 t11 (i + 1) e.n e.c) := ⟨by rw [HES.out]; exact b11, HE4.out, fun h => absurd h (by omega), fun _ => by rw [HEN0.out.1, HEN0.out.2]; exact (HGI.out HST.out).2, (HGI.out HST.out).1⟩
                    clear b11
                    dsimp only
                    go_wp2_with fail
                    go_roundw
                    case rel => exact ⟨i + 1, t11, e.n, e.c, rfl, by go_num, by omega, HNX.out⟩
                    case measure => simp [intOf]; omega
          · have hlti : ¬ ((i : Nat) : Int) < (sn : Int) := by omega
            have hiN : rs.take i = rs := List.take_of_length_le (by omega)
            have HB11 : Hid (Bf w wr t (vs5 ++ encPws (rs.map cwOf))) := by unfold Hid; have := HQ.out.b; rw [hiN] at this; exact this
            have HE4 : Hid (eKey rs = 0) := by unfold Hid; rw [HE.out, HQ.out.e, List.drop_eq_nil_of_le (by omega)]; rfl
            have HEN : Hid (encPc (pcK rs) = vs5 ++ encPws (rs.map cwOf)) := by
              unfold Hid
              rw [← Hvs5.out, ← Hvs4.out]
              have hkk : (rs.headD pcK.Wr.z0).k = k0 := by
                rw [Hk0.out]
                cases rs with
                | nil => simp at hrl; omega
                | cons r l => rfl
              unfold pcK encPc
              dsimp only
              rw [hkk, encN1 (show 2 < 256 by omega), List.length_map, hrl]
              simp only [List.append_assoc]
            have HLX : Hid ((vs5 ++ encPws (rs.map cwOf)).length ≤ 2048) := by unfold Hid; rw [← HEN.out]; have := encPc_le (VPc_K HE4.out); omega
            rw [← HEN.out] at HB11 HLX
            clear hiN
            go_wp2_with fail
            refine (rfilled_ok HB11.out HLX.out).mono ?_
            rintro _ w12 ⟨t12, rfl, b12, _⟩
            have HB12 := hid b12
            clear b12
            dsimp only
            go_wp2_with fail
            go_ret2
            exact ⟨HB12.out.nw.ap, fun h => absurd HE4.out h, fun _ => ⟨t12, rfl, HB12.out⟩⟩
end Go.Proofs.Ytllhmidpphlbhaa.ds
