import Derived.Test.YtdbeeikjngnnnaaGreatChecked
import Derived.WalkKit
import Derived.ProofKit
import Derived.OpenShut
import Derived.Deep.QuietTactic
import Derived.BigQuiet
import Derived.BigRegion
import Derived.Laws.CopyOwn
import Derived.Laws.IdiomCopy
import Derived.WalkSmall
import Derived.Laws.ResultCell
import Derived.Laws.AppendOwnNone
import Derived.Deep.RegionHeld
import Derived.Deep.DeepAppendRoom
import Derived.Great.BuildSlice
import Derived.Deep.CutBlock
import Derived.Deep.RegionLaw
import Derived.ArgAppend
import Derived.Laws.Strings
import Derived.Laws.StructEq
import Derived.Below
import Derived.Deep.MidRow
import Derived.Great.Ranges
import Derived.Deep.RegionHeld3
import Derived.Laws.NewBlocks
import Derived.OrdersHeld
import Derived.Stop.BytesEq
import Derived.Laws.BytesString
import Derived.Lib.ConvBytes
import Derived.Laws.BitsAllLaws
import Derived.WalkLawsBesides
import Derived.Lib.Bytealg
import Derived.Laws.Externs
import Derived.Lib.SliceRun
import Derived.Lib.AppendZerosOnto
import Derived.Lib.AppendStr
import Derived.Lib.SlBytesConst
import Derived.Sort.Walk0
import Derived.Laws.Cover1
import Derived.Lib.Strings
import Derived.Lib.MinMaxS
import GoSem.Claim
import GoSem.ClaimJoined
import GoSem.ClaimMapViews
import Derived.JoinedTies
import Derived.KernelRfl
import Derived.JoinedCond
import Derived.ShutString
import Derived.ChangeOld
import Derived.Carry
import Derived.ChangeSlices
import Derived.Deep.Slices
import Derived.Deep.DeepHandedRow
import Derived.RowKit
import Derived.ChangeShapes
import Derived.SizedLaws
import Derived.ChangeMaps5
import Derived.Sort.WalkA
import Derived.Test.YtdbeeikjngnnnaaGreatRows
import Derived.Test.YtdbeeikjngnnnaaGreatD27
import Derived.Test.YtdbeeikjngnnnaaGreatD29
import Derived.Test.YtdbeeikjngnnnaaGreatD32
import Derived.Test.YtdbeeikjngnnnaaGreatD45
namespace Go.Proofs.YtdbeeikjngnnnaaGreat.ty
open Go.ChangeShapes Go.WideShapes Go.ChangeAt Go.RowKit Go.Deep
set_option linter.unusedVariables false
set_option linter.unusedSimpArgs false
set_option maxRecDepth 100000
theorem own : ownKnob Tryz.prog.godebug = none := by kernel_rfl
theorem laidOut : laidOutB Tryz.prog = true := by kernel_rfl
theorem c5 : Tryz.prog.cellsOf 5 = 1 := by kernel_rfl
theorem weigh {H : Type} (d : DataW H) : 0 < Rows.uptoBulk d := by
  cases d
  case lit l => cases l <;> (unfold Rows.uptoBulk; omega)
  all_goals (unfold Rows.uptoBulk; omega)
theorem many {H : Type} : ∀ l : List (DataW H), l.length ≤ Rows.uptoBulkAll l
  | [] => Nat.zero_le _
  | d :: l => by have h1 := weigh d; have h2 := many l; rw [Rows.uptoBulkAll, List.length_cons]; omega
theorem all_cons {H : Type} (d : DataW H) (l : List (DataW H)) : Rows.uptoBulkAll (d :: l) = Rows.uptoBulk d + Rows.uptoBulkAll l := by rw [Rows.uptoBulkAll]
theorem all_nil {H : Type} : Rows.uptoBulkAll ([] : List (DataW H)) = 0 := by rw [Rows.uptoBulkAll]
theorem all_mem {H : Type} {d : DataW H} : ∀ {l : List (DataW H)}, d ∈ l → Rows.uptoBulk d ≤ Rows.uptoBulkAll l
  | e :: l, h => by
    rw [all_cons]
    rcases List.mem_cons.1 h with rfl | h
    · omega
    · have := all_mem h; omega
theorem slice_many {H : Type} (a b : List (DataW H)) : Rows.uptoBulkAll a ≤ Rows.uptoBulk (.slice a b) := by
  rw [Rows.uptoBulk]; omega
theorem agg_many {H : Type} (a : List (DataW H)) : Rows.uptoBulkAll a ≤ Rows.uptoBulk (.agg a) := by
  rw [Rows.uptoBulk]; omega
/-- a []byte that came in -/
theorem open_bytes {H : Type} {enc : TypeId × Value → H} {W : World} {fuel : Nat} {v : Value} {x : DataW H × List MemPlace} (h : DataW.trod enc Tryz.prog W 0 (fun _ => true) true fuel 29 [v] = some x) (hb : Rows.uptoBulk x.1 ≤ 1048576) :
    ∃ (s : Sl) (bs : List Nat), v = s.v ∧ Rd W s.p (byts bs) ∧ bs.length = s.n ∧ s.n ≤ 1048576 ∧ (∀ b ∈ bs, b < 256) ∧ s.ok := by
  rcases open_ints Tryz.underlying29 Tryz.underlying5 c5 h with ⟨hcs, _⟩ | ⟨a, l, c, zs, hcs, _, hl, hm, hz, hx, hcell, hwz⟩
  · simp at hcs
    exact ⟨⟨none, 0, 0⟩, [], hcs, Rd.nil _ _, rfl, by decide, by simp, fun _ => ⟨rfl, rfl⟩⟩
  · simp at hcs
    simp only [if_true] at hz
    have hll : l ≤ 1048576 := by
      have h1 := slice_many (lits .u8 (zs.take l) : List (DataW H)) (lits .u8 (zs.drop l))
      have h2 := many (lits .u8 (zs.take l) : List (DataW H))
      have h3 : (lits .u8 (zs.take l) : List (DataW H)).length = l := by simp [lits]; omega
      rw [hx] at hb
      simp only at hb
      omega
    have hpos : ∀ z ∈ zs, 0 ≤ z ∧ z < 256 := fun z hz => by
      have := hwz z hz
      simp [Lit.wf, IntKind.bits, IntKind.signed, IntKind.min, IntKind.max] at this
      omega
    refine ⟨⟨some a, l, c⟩, (zs.take l).map Int.toNat, hcs, fun h0 => ?_, by simp; omega, hll, fun b hb => ?_, fun e => by cases e⟩
    · obtain ⟨g, o, spot⟩ := a
      simp [byts] at h0
      have hc := hcell 0 (by omega)
      have hspot : spot = none := by simpa [Addr.add] using World.cell?_spot hc
      subst hspot
      refine ⟨g, o, rfl, ?_, fun j u hj => ?_⟩
      · rw [Addr.add_lit] at hc
        exact block_lt_of_cell hc
      · simp only [byts, List.getElem?_map, Option.map_eq_some_iff] at hj
        obtain ⟨b, ⟨z, hz1, rfl⟩, rfl⟩ := hj
        have hjl : j < zs.length := by
          by_cases hq : j < l
          · omega
          · rw [List.getElem?_take, if_neg hq] at hz1; cases hz1
        have hc2 := hcell j hjl
        rw [Addr.add_lit] at hc2
        rw [hc2]
        rw [List.getElem?_take] at hz1
        split at hz1
        · rw [List.getD_eq_getElem?_getD, hz1]
          have := (hpos z (List.mem_of_getElem? hz1)).1
          simp
          omega
        · cases hz1
    · rw [List.mem_map] at hb
      obtain ⟨z, hz1, rfl⟩ := hb
      have := hpos z (List.mem_of_mem_take hz1)
      omega
end Go.Proofs.YtdbeeikjngnnnaaGreat.ty
namespace Go.Proofs.YtdbeeikjngnnnaaGreat.ty
open Go.ChangeShapes Go.WideShapes Go.ChangeAt Go.RowKit
set_option linter.unusedVariables false
set_option linter.unusedSimpArgs false
theorem dk0' {w : World} {O k : Nat} (h : Dv w O (rv0 k) ⟨none, 0, 0⟩) : Dk w O (rv0 k) ⟨none, 0, 0⟩ := ⟨h, fun h0 => by simp [rv0] at h0⟩
/-- the reader has changed -/
theorem Dk.kr {wB w w' : World} {V R : Nat} {r : Rv} {s sl : Sl} {bs : List Nat} {a : Nat} {b : Bool} (h : Dk w V r s) (d : Dr wB w R sl bs a b) (k : Apart [R] w w') (hn : V ≠ R) : Dk w' V r s := h.other k (fun hm => hn (List.mem_singleton.1 hm)) (fun q hq cur m e => by
  rw [List.mem_singleton.1 hq, d.blk] at e
  simp at e)
/-- the value has changed -/
theorem Dr.kv {wB w w' : World} {V R : Nat} {r : Rv} {s sl : Sl} {bs : List Nat} {a : Nat} {b : Bool} (d : Dr wB w R sl bs a b) (h : Dk w V r s) (k : Apart [V] w w') (hV : wB.heap.size ≤ V) : Dr wB w' R sl bs a b := d.kept k (fun hm => by
  have e := d.blk
  rw [List.mem_singleton.1 hm, h.dv.blk] at e
  simp at e) (fun x hx => by rw [List.mem_singleton.1 hx]; exact hV)
set_option maxHeartbeats 8000000 in
set_option maxRecDepth 100000 in
theorem dRead1 {w : World} {sl : Sl} {bs : List Nat} (h : Gv w sl bs) (hl : bs.length ≤ 64) : Calls Tryz.prog 46 #[.int .i64 1, .slice sl.p sl.n sl.c] w fun x w' => RdP w 1 bs x w' := by
  have HN := hid (rnew_ok w 1 (by omega) (by omega))
  have HG := hid h
  have Hl := hid hl
  obtain ⟨N, HNN⟩ : ∃ N, Hid (N = bs.length) := ⟨_, hid rfl⟩
  have hsn : sl.n = N := by rw [HNN.out]; exact h.len.symm
  have hn64 : ¬ ((N : Nat) : Int) > 64 := by rw [HNN.out]; omega
  have HU : Hid (U8 bs) := hid h.u8
  have Hsn := hid hsn
  rw [hsn]
  clear h hl hsn
  go_enter Tryz.func46, Tryz.ntmps46
  go_upto_region 6 with (
    go_at_call 19
    refine HN.out.mono ?_
    rintro _ w1 ⟨V, rfl, hV, dV, aV⟩
    have HA1 := hid aV
    have HV := hid hV
    have HD0 := hid (dk0' dV)
    clear aV dV hV)
  obtain ⟨R, HR⟩ : ∃ R, Hid (R = w1.heap.size) := ⟨_, hid rfl⟩
  obtain ⟨w2, Hw2⟩ : ∃ W, Hid (W = w1.alloc (.cells #[.slice sl.p N sl.c, .int .i64 0, .bool false] 134)) := ⟨_, hid rfl⟩
  have HR2 : Hid (Dr w w2 R sl bs 0 false) := hid (by rw [Hw2.out, HR.out, ← Hsn.out]; exact Dr.new' HG.out Hl.out HA1.out)
  have HA2 : Hid (Apart [] w w2) := hid HR2.out.ap
  have HD2 : Hid (Dk w2 V (rv0 1) ⟨none, 0, 0⟩) := hid (HD0.out.kept0 (by rw [Hw2.out]; exact (Apart.refl [] w1).alloc _))
  have HVR : Hid (V < R) := hid (by rw [HR.out]; exact lt_of_heap HD0.out.dv.blk)
  go_upto_region 7 with (refine wpL_val rfl (.agg #[.slice sl.p N sl.c, .int .i64 0, .bool false]) (ex_build134 _ rfl rfl) ?_)
  rw [← HR.out, ← Hw2.out]
  clear Hw2 HN HD0 HA1
  have HC := hid (dnumber_ok HR2.out (k := 1) (by omega))
  obtain ⟨x0, Hx0⟩ : ∃ x, Hid (x = dnum bs 0 1) := ⟨_, hid rfl⟩
  rw [← Hx0.out] at HC
  by_cases hx : x0 = 1
  case neg =>
    have hxi : ((x0 : Int) != 1) = true := by simp only [bne_iff_ne, ne_eq]; omega
    have Hno : Hid (rdOk 1 bs = false) := hid (rdOk_no (by omega) (by omega) (by rw [← Hx0.out]; exact hx))
    go_wp2_with (
      go_at_call 62
      refine HC.out.mono ?_
      rintro _ w3 ⟨rfl, d3, a3⟩
      have HA3 : Hid (Apart [] w w3) := hid d3.ap
      clear d3 a3)
    go_ret2
    exact .inr ⟨Hno.out, rfl, HA3.out⟩
  case pos =>
  have hxi : ((x0 : Int) != 1) = false := by rw [hx]; rfl
  have Hhd := hid (dnum_head (k := 1) (by omega) (by rw [← Hx0.out]; exact hx))
  clear hx
  go_upto_region 9 with (
    go_at_call 62
    refine HC.out.mono ?_
    rintro _ w3 ⟨rfl, d3, a3⟩
    rw [Hhd.out.1, Hhd.out.2.1] at d3
    have HR3 : Hid (Dr w w3 R sl bs 1 false) := hid d3
    have HD3 := hid (HD2.out.kr HR2.out a3 (by have := HVR.out; omega))
    clear d3 a3)
  obtain ⟨l, hbs⟩ := Hhd.out.2.2
  have Hbs := hid hbs
  clear hbs
  have Hb1 : Hid (bs.drop 1 = l) := hid (by rw [Hbs.out]; rfl)
  clear hxi HC Hx0 Hhd HR2 HD2 HA2
  have HC := hid (drd_row2 HR3.out (size := 3) (by omega))
  obtain ⟨g, Hg⟩ : ∃ g, Hid (g = rowDD bs 1 false 3 true) := ⟨_, hid rfl⟩
  rw [← Hg.out] at HC
  have Hgl : Hid (g.u.length = 8 ∧ g.d.length = 8) := hid (by rw [Hg.out]; exact rwD_len _ _ _ _ _ _ 8)
  have Hgb : Hid (Wd g.u ∧ Wd g.d) := hid (by
    have hb := rwD_bd HU.out (dnum bs 1 1) (size := 3) (by omega) true (dat bs 1 1) (false || dbad bs 1 1) 8
    refine ⟨⟨Hgl.out.1, ?_⟩, ⟨Hgl.out.2, ?_⟩⟩
    · rw [Hg.out]; exact hb.1
    · rw [Hg.out]; exact hb.2)
  go_upto_region 32 with (first
    | (go_at_call 63
       refine HC.out.mono ?_
       rintro _ w4 ⟨rfl, d4, a4⟩
       have HR4 := hid d4
       have HD4 := hid (HD3.out.kr HR3.out a4 (by have := HVR.out; omega))
       clear d4 a4)
    | (refine wpList_store_mid rfl 60 _ _ rfl V 1 (rv g.u).toArray rfl rfl (dk_there HD4.out 1 _ (by simp [rv_len, Hgl.out.1])) (by rw [size60]; simp [rv_len, Hgl.out.1]) (all_oneCell_toArray (rv_one _)) ?_
       simp only [List.toList_toArray]
       have HD5 := hid (HD4.out.rowU Hgl.out.1)
       have HR5 := hid (HR4.out.kv HD4.out (apart_setCells w4 V (rv g.u) 1) HV.out)
       generalize w4.setCells V 1 (rv g.u) = w5 at *)
    | (refine wpList_store_mid rfl 60 _ _ rfl V 9 (rv g.d).toArray rfl rfl (dk_there HD5.out 9 _ (by simp [rv_len, Hgl.out.2])) (by rw [size60]; simp [rv_len, Hgl.out.2]) (all_oneCell_toArray (rv_one _)) ?_
       simp only [List.toList_toArray]
       have HDf' := hid (HD5.out.rowDn Hgl.out.2)
       have HRf := hid (HR5.out.kv HD5.out (apart_setCells w5 V (rv g.d) 9) HV.out)
       generalize w5.setCells V 9 (rv g.d) = wf at *))
  obtain ⟨rf, Hrf⟩ : ∃ x : Rv, Hid (x = ⟨1, g.u, g.d, zr, [], 0, 0, ⟨#[]⟩⟩) := ⟨_, hid rfl⟩
  have HDf : Hid (Dk wf V rf ⟨none, 0, 0⟩) := hid (by rw [Hrf.out]; exact HDf'.out)
  obtain ⟨sf, Hsf⟩ : ∃ s : Sl, Hid (s = ⟨none, 0, 0⟩) := ⟨_, hid rfl⟩
  rw [← Hsf.out] at HDf
  obtain ⟨bf, Hbf⟩ : ∃ b, Hid (b = g.bad) := ⟨_, hid rfl⟩
  rw [← Hbf.out] at HRf
  clear HDf' HC HR3 HD3 HR4 HD4 HR5 HD5
  have HRl := hid (lt_of_heap HRf.out.blk)
  have Hc2 := hid HRf.out.c2
  have HCv : Hid (∀ W, Apart [] w W → Sem.run Tryz.prog (convert 29 9 (.slice sl.p N sl.c)) W = .ok (.string (strB bs)) W) := hid (fun W a => by
    have := conv_bytes (HG.out.rd.kept0 a) HG.out.len HG.out.ok
    rw [Hsn.out] at this
    exact this)
  go_upto_region 32 with fail
  cases hbf : bf
  case true =>
    rw [hbf] at Hc2
    have Hno : Hid (rdOk 1 bs = false) := hid (by
      cases c : rdOk 1 bs
      · rfl
      · exfalso
        obtain ⟨-, c2⟩ := rdOk_form c
        have ok := readV_okF (k := 1) (by omega) (by omega) HU.out Hl.out
        obtain ⟨u, d, e⟩ : ∃ u d, readV 1 bs = .cnt u d := ⟨_, _, rfl⟩
        rw [e] at c2 ok
        obtain ⟨ou, od⟩ : Wd u ∧ Wd d := ok
        have h3 : bs.drop 1 = rowB (ob u d) 6 ++ [] := by rw [← c2, List.append_nil]; rfl
        have h4 := (rowDD_good2 HU.out (ou.rw6 od) h3).1
        rw [← Hg.out, ← Hbf.out, hbf] at h4
        cases h4)
    have hAd : Apart [] wf wf.drew := (Apart.refl [] wf).drew
    refine wp_region_held_drew (S := fun W => Apart [] wf W) (by kernel_rfl) hAd (fun hHeld => ?_)
    generalize wf.drew = wd at *
    clear hAd
    refine tk 0 191 (.pointer (some ⟨R, 0, none⟩)) rfl ?_ ?_
    · intro W hSW; go_simp
    simp only [Act.put, List.setIfInBounds_toArray, List.set_cons_zero, List.set_cons_succ]
    refine tk 1 192 (.pointer (some ⟨R, 0, none⟩)) rfl ?_ ?_
    · intro W hSW; go_simp
    simp only [Act.put, List.setIfInBounds_toArray, List.set_cons_zero, List.set_cons_succ]
    refine tk 2 193 (.pointer (some ⟨R, 2, none⟩)) rfl ?_ ?_
    · intro W hSW; go_simp
    simp only [Act.put, List.setIfInBounds_toArray, List.set_cons_zero, List.set_cons_succ]
    refine tk 3 194 (.bool true) rfl ?_ ?_
    · intro W hSW; have z : W.cell? ⟨R, 2, none⟩ = some (.bool true) := (hSW.cell HRl.out (by simp)).trans Hc2.out; go_simp
    simp only [Act.put, List.setIfInBounds_toArray, List.set_cons_zero, List.set_cons_succ]
    refine tk 4 195 (.bool true) rfl ?_ ?_
    · intro W hSW; go_simp
    simp only [Act.put, List.setIfInBounds_toArray, List.set_cons_zero, List.set_cons_succ]
    refine tu 5 196 rfl ?_
    simp only [Act.put, List.setIfInBounds_toArray, List.set_cons_zero, List.set_cons_succ]
    refine tu 8 199 rfl ?_
    simp only [Act.put, List.setIfInBounds_toArray, List.set_cons_zero, List.set_cons_succ]
    refine tu 9 200 rfl ?_
    simp only [Act.put, List.setIfInBounds_toArray, List.set_cons_zero, List.set_cons_succ]
    refine wpAnyH_pass 6 (o := ⟨some 197, _, _, _, _, _⟩) (by kernel_rfl) rfl (by kernel_rfl) (by assumption) ?_
    simp only [Act.put, List.setIfInBounds_toArray, List.set_cons_zero, List.set_cons_succ]
    refine tu 7 198 rfl ?_
    simp only [Act.put, List.setIfInBounds_toArray, List.set_cons_zero, List.set_cons_succ]
    refine tu 10 201 rfl ?_
    simp only [Act.put, List.setIfInBounds_toArray, List.set_cons_zero, List.set_cons_succ]
    refine tk 11 202 (.bool true) rfl ?_ ?_
    · intro W hSW; go_simp
    simp only [Act.put, List.setIfInBounds_toArray, List.set_cons_zero, List.set_cons_succ]
    refine wpAnyH_done (by kernel_rfl) ?_ _
    have HAn := hid hHeld
    clear hHeld
    go_wp2_with fail
    go_ret2
    exact .inr ⟨Hno.out, rfl, HRf.out.ap.trans HAn.out⟩
  case false =>
    rw [hbf] at Hc2
    have Hv1 : Hid (readV 1 bs = .cnt g.u g.d) := hid (by
      have h1 := rowDD_two HU.out (a := 1) (b := false) (by rw [← Hg.out, ← Hbf.out]; exact hbf)
      rw [← Hg.out] at h1
      show Vl.cnt (cuR (rowR (bs.drop 1) 6).1) (cdR (rowR (bs.drop 1) 6).1) = _
      rw [h1.2.2.1, h1.2.2.2])
    obtain ⟨v, Hv⟩ : ∃ v : Vl, Hid (v = .cnt g.u g.d) := ⟨_, hid rfl⟩
    have Hrv : Hid (readV 1 bs = v) := hid (by rw [Hv.out]; exact Hv1.out)
    have Hvr : Hid (rvO v [] = rf) := hid (by rw [Hv.out, Hrf.out]; rfl)
    have HRl2 : Hid (Rl v []) := hid (by rw [Hv.out]; rfl)
    have Hrt : Hid (rightV v = true) := hid (by rw [Hv.out]; rfl)
    have HIv : Hid (Iv v) := hid (by rw [Hv.out]; exact ⟨⟨Hgb.out, fun s a t e => by cases e⟩, fun x hx => by simp [elsR] at hx⟩)
    have HFo : Hid (∀ W, Apart [] wf W → Calls Tryz.prog 44 #[.pointer (some ⟨V, 0, none⟩)] W fun x w' => ∃ s', x = .returned (.slice s'.p s'.n s'.c) ∧ Bf W w' s' (formV v)) := hid (fun W aW => dform_any (by rw [Hvr.out]; exact HDf.out.kept0 aW) HRl2.out HIv.out)
    have HU2 : Hid (U8 (formV v)) := hid (formV_u8 v)
    by_cases he : formV v = bs
    · have Hne : Hid (((strB (formV v)).toList != (strB bs).toList) = false) := hid (by rw [he]; simp)
      have Hyes : Hid (rdOk 1 bs = true) := hid (by
        unfold rdOk
        rw [Hrv.out, Hrt.out, he]
        simp)
      have hAd : Apart [] wf wf.drew := (Apart.refl [] wf).drew
      refine wp_region_held_drew (S := fun W => Apart [] wf W) (by kernel_rfl) hAd (fun hHeld => ?_)
      generalize wf.drew = wd at *
      clear hAd
      refine tk 0 191 (.pointer (some ⟨R, 0, none⟩)) rfl ?_ ?_
      · intro W hSW; go_simp
      simp only [Act.put, List.setIfInBounds_toArray, List.set_cons_zero, List.set_cons_succ]
      refine tk 1 192 (.pointer (some ⟨R, 0, none⟩)) rfl ?_ ?_
      · intro W hSW; go_simp
      simp only [Act.put, List.setIfInBounds_toArray, List.set_cons_zero, List.set_cons_succ]
      refine tk 2 193 (.pointer (some ⟨R, 2, none⟩)) rfl ?_ ?_
      · intro W hSW; go_simp
      simp only [Act.put, List.setIfInBounds_toArray, List.set_cons_zero, List.set_cons_succ]
      refine tk 3 194 (.bool false) rfl ?_ ?_
      · intro W hSW; have z : W.cell? ⟨R, 2, none⟩ = some (.bool false) := (hSW.cell HRl.out (by simp)).trans Hc2.out; go_simp
      simp only [Act.put, List.setIfInBounds_toArray, List.set_cons_zero, List.set_cons_succ]
      refine tk 4 195 (.bool false) rfl ?_ ?_
      · intro W hSW; go_simp
      simp only [Act.put, List.setIfInBounds_toArray, List.set_cons_zero, List.set_cons_succ]
      refine tk 5 196 (.pointer (some ⟨V, 0, none⟩)) rfl ?_ ?_
      · intro W hSW; go_simp
      simp only [Act.put, List.setIfInBounds_toArray, List.set_cons_zero, List.set_cons_succ]
      refine tk 8 199 (.slice sl.p N sl.c) rfl ?_ ?_
      · intro W hSW; go_simp
      simp only [Act.put, List.setIfInBounds_toArray, List.set_cons_zero, List.set_cons_succ]
      refine tk 9 200 (.string (strB bs)) rfl ?_ ?_
      · intro W hSW; have hcv := HCv.out W (HRf.out.ap.trans hSW); go_simp
      simp only [Act.put, List.setIfInBounds_toArray, List.set_cons_zero, List.set_cons_succ]
      refine wpAnyH_ready (rs := [6]) (by kernel_rfl) (by simp) ?_
      refine AllReadyH.cons rfl (fun KK hKK => ?_) AllReadyH.nil
      go_simp
      refine (HFo.out wd hHeld).mono ?_
      rintro _ wa ⟨sf2, rfl, bff⟩
      have hHx := hHeld.trans bff.nw.ap
      try dsimp only
      refine hKK.out _ _ hHx (fun hHeld => ?_)
      clear hKK KK
      try simp only [Act.put, List.setIfInBounds_toArray, List.set_cons_zero, List.set_cons_succ]
      refine wpAnyH_ready (rs := [7]) (by kernel_rfl) (by simp) ?_
      refine AllReadyH.cons rfl (fun KK hKK => ?_) AllReadyH.nil
      have hcv := conv_bytes (w := wa) (Rd.own bff.nw.own) bff.len.symm bff.nw.ok
      go_simp
      refine hKK.out _ _ hHeld (fun hHeld => ?_)
      clear hKK KK
      try simp only [Act.put, List.setIfInBounds_toArray, List.set_cons_zero, List.set_cons_succ]
      refine tk 10 201 (.bool false) rfl ?_ ?_
      · intro W hSW; have hne := Hne.out; go_simp
      simp only [Act.put, List.setIfInBounds_toArray, List.set_cons_zero, List.set_cons_succ]
      refine tk 11 202 (.bool false) rfl ?_ ?_
      · intro W hSW; go_simp
      simp only [Act.put, List.setIfInBounds_toArray, List.set_cons_zero, List.set_cons_succ]
      refine wpAnyH_done (by kernel_rfl) ?_ _
      have HAn := hid hHeld
      clear hHeld bff
      have HDz := hid (HDf.out.kept0 HAn.out)
      go_wp2_with fail
      go_ret2
      exact .inl ⟨Hyes.out, ⟨V, sf, [], rfl, HV.out, by rw [Hrv.out, Hvr.out]; exact HDz.out, by rw [Hrv.out]; exact HRl2.out⟩, HRf.out.ap.trans HAn.out⟩
    · have Hne : Hid (((strB (formV v)).toList != (strB bs).toList) = true) := hid (by
        have := strB_eq HU2.out HU.out
        rw [decide_eq_false he] at this
        rw [bne, this]; rfl)
      have Hno : Hid (rdOk 1 bs = false) := hid (by
        unfold rdOk
        rw [Hrv.out, decide_eq_false he]
        simp)
      have hAd : Apart [] wf wf.drew := (Apart.refl [] wf).drew
      refine wp_region_held_drew (S := fun W => Apart [] wf W) (by kernel_rfl) hAd (fun hHeld => ?_)
      generalize wf.drew = wd at *
      clear hAd
      refine tk 0 191 (.pointer (some ⟨R, 0, none⟩)) rfl ?_ ?_
      · intro W hSW; go_simp
      simp only [Act.put, List.setIfInBounds_toArray, List.set_cons_zero, List.set_cons_succ]
      refine tk 1 192 (.pointer (some ⟨R, 0, none⟩)) rfl ?_ ?_
      · intro W hSW; go_simp
      simp only [Act.put, List.setIfInBounds_toArray, List.set_cons_zero, List.set_cons_succ]
      refine tk 2 193 (.pointer (some ⟨R, 2, none⟩)) rfl ?_ ?_
      · intro W hSW; go_simp
      simp only [Act.put, List.setIfInBounds_toArray, List.set_cons_zero, List.set_cons_succ]
      refine tk 3 194 (.bool false) rfl ?_ ?_
      · intro W hSW; have z : W.cell? ⟨R, 2, none⟩ = some (.bool false) := (hSW.cell HRl.out (by simp)).trans Hc2.out; go_simp
      simp only [Act.put, List.setIfInBounds_toArray, List.set_cons_zero, List.set_cons_succ]
      refine tk 4 195 (.bool false) rfl ?_ ?_
      · intro W hSW; go_simp
      simp only [Act.put, List.setIfInBounds_toArray, List.set_cons_zero, List.set_cons_succ]
      refine tk 5 196 (.pointer (some ⟨V, 0, none⟩)) rfl ?_ ?_
      · intro W hSW; go_simp
      simp only [Act.put, List.setIfInBounds_toArray, List.set_cons_zero, List.set_cons_succ]
      refine tk 8 199 (.slice sl.p N sl.c) rfl ?_ ?_
      · intro W hSW; go_simp
      simp only [Act.put, List.setIfInBounds_toArray, List.set_cons_zero, List.set_cons_succ]
      refine tk 9 200 (.string (strB bs)) rfl ?_ ?_
      · intro W hSW; have hcv := HCv.out W (HRf.out.ap.trans hSW); go_simp
      simp only [Act.put, List.setIfInBounds_toArray, List.set_cons_zero, List.set_cons_succ]
      refine wpAnyH_ready (rs := [6]) (by kernel_rfl) (by simp) ?_
      refine AllReadyH.cons rfl (fun KK hKK => ?_) AllReadyH.nil
      go_simp
      refine (HFo.out wd hHeld).mono ?_
      rintro _ wa ⟨sf2, rfl, bff⟩
      have hHx := hHeld.trans bff.nw.ap
      try dsimp only
      refine hKK.out _ _ hHx (fun hHeld => ?_)
      clear hKK KK
      try simp only [Act.put, List.setIfInBounds_toArray, List.set_cons_zero, List.set_cons_succ]
      refine wpAnyH_ready (rs := [7]) (by kernel_rfl) (by simp) ?_
      refine AllReadyH.cons rfl (fun KK hKK => ?_) AllReadyH.nil
      have hcv := conv_bytes (w := wa) (Rd.own bff.nw.own) bff.len.symm bff.nw.ok
      go_simp
      refine hKK.out _ _ hHeld (fun hHeld => ?_)
      clear hKK KK
      try simp only [Act.put, List.setIfInBounds_toArray, List.set_cons_zero, List.set_cons_succ]
      refine tk 10 201 (.bool true) rfl ?_ ?_
      · intro W hSW; have hne := Hne.out; have hnp := bne_iff_ne.1 hne; go_simp
      simp only [Act.put, List.setIfInBounds_toArray, List.set_cons_zero, List.set_cons_succ]
      refine tk 11 202 (.bool true) rfl ?_ ?_
      · intro W hSW; go_simp
      simp only [Act.put, List.setIfInBounds_toArray, List.set_cons_zero, List.set_cons_succ]
      refine wpAnyH_done (by kernel_rfl) ?_ _
      have HAn := hid hHeld
      clear hHeld bff
      go_wp2_with fail
      go_ret2
      exact .inr ⟨Hno.out, rfl, HRf.out.ap.trans HAn.out⟩
end Go.Proofs.YtdbeeikjngnnnaaGreat.ty
namespace Go.Proofs.YtdbeeikjngnnnaaGreat.ty
open Go.ChangeShapes Go.WideShapes Go.ChangeAt Go.RowKit
set_option linter.unusedVariables false
set_option linter.unusedSimpArgs false
theorem En.row {W : World} {E : Nat} {l : ByteArray} {q : List Int} (h : W.heap[E]? = some (.cells (⟨l, q⟩ : En).vs.toArray 141 (0, 0))) : W.rangeAt E 1 (rv q) := by
  intro j v hj
  rw [cell_of_row _ _ _ _ _ _ h]
  simp only [List.getElem?_toArray, En.vs]
  rw [Nat.add_comm 1 j, List.getElem?_cons_succ]
  exact hj
theorem Nw.lt {w0 w : World} {e size : Nat} {s : Sl} {us : List Value} (h : Nw w0 w e size s us) {X : Nat} (hX : w.heap.size ≤ X) : X ∉ s.v.ownBlock.toList := by
  intro hk
  obtain ⟨cur, e1⟩ := own_typ h.own (k := X) (by simpa using hk)
  have := lt_of_heap e1
  omega
end Go.Proofs.YtdbeeikjngnnnaaGreat.ty
