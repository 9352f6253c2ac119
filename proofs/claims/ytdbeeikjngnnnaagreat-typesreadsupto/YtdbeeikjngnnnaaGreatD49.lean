import Derived.Test.YtdbeeikjngnnnaaGreatChecked
import Derived.WalkKit
import Derived.ProofKit
import Derived.OpenShut
import Derived.Deep.QuietTactic
import Derived.BigQuiet
import Derived.BigRegion
import Derived.Laws.CopyOwn
import Derived.Laws.IdiomCopy
import Derived.WalkSmall
import Derived.Laws.ResultCell
import Derived.Laws.AppendOwnNone
import Derived.Deep.RegionHeld
import Derived.Deep.DeepAppendRoom
import Derived.Great.BuildSlice
import Derived.Deep.CutBlock
import Derived.Deep.RegionLaw
import Derived.ArgAppend
import Derived.Laws.Strings
import Derived.Laws.StructEq
import Derived.Below
import Derived.Deep.MidRow
import Derived.Great.Ranges
import Derived.Deep.RegionHeld3
import Derived.Laws.NewBlocks
import Derived.OrdersHeld
import Derived.Stop.BytesEq
import Derived.Laws.BytesString
import Derived.Lib.ConvBytes
import Derived.Laws.BitsAllLaws
import Derived.WalkLawsBesides
import Derived.Lib.Bytealg
import Derived.Laws.Externs
import Derived.Lib.SliceRun
import Derived.Lib.AppendZerosOnto
import Derived.Lib.AppendStr
import Derived.Lib.SlBytesConst
import Derived.Sort.Walk0
import Derived.Laws.Cover1
import Derived.Lib.Strings
import Derived.Lib.MinMaxS
import GoSem.Claim
import GoSem.ClaimJoined
import GoSem.ClaimMapViews
import Derived.JoinedTies
import Derived.KernelRfl
import Derived.JoinedCond
import Derived.ShutString
import Derived.ChangeOld
import Derived.Carry
import Derived.ChangeSlices
import Derived.Deep.Slices
import Derived.Deep.DeepHandedRow
import Derived.RowKit
import Derived.ChangeShapes
import Derived.SizedLaws
import Derived.ChangeMaps5
import Derived.Sort.WalkA
import Derived.Test.YtdbeeikjngnnnaaGreatRows
import Derived.Test.YtdbeeikjngnnnaaGreatD48
namespace Go.Proofs.YtdbeeikjngnnnaaGreat.ty
open Go.ChangeShapes Go.WideShapes Go.ChangeAt Go.RowKit
set_option linter.unusedVariables false
set_option linter.unusedSimpArgs false
theorem rwD_bd2 {bs : List Nat} (h8 : U8 bs) (mask : Nat) (a : Nat) (b : Bool) : ∀ i, ∀ x ∈ (rwD bs mask 2 false a b i).u, 0 ≤ x ∧ x < 65536
  | 0 => by simp [rwD]
  | i + 1 => by
    have h1 := rwD_bd2 h8 mask a b i
    have hn : ∀ q, 0 ≤ (dnum bs q 2 : Int) ∧ (dnum bs q 2 : Int) < 65536 := fun q => by
      have e1 := dnum_lt h8 q 2
      have e2 : 2 ^ (8 * 2) = 65536 := by decide
      omega
    have ap : ∀ {l : List Int} {z : Int}, (∀ x ∈ l, 0 ≤ x ∧ x < 65536) → (0 ≤ z ∧ z < 65536) → ∀ x ∈ l ++ [z], 0 ≤ x ∧ x < 65536 := fun {l z} hl hz x hx => by
      rcases List.mem_append.1 hx with hx | hx
      · exact hl x hx
      · rw [List.mem_singleton.1 hx]; exact hz
    unfold rwD rwS
    split
    · simp only [Bool.false_eq_true, if_false]
      exact ap h1 (hn _)
    · exact ap h1 (by omega)
theorem rowDD_cn {bs : List Nat} (h8 : U8 bs) (a : Nat) (b : Bool) : Cn (rowDD bs a b 2 false).u := Cn.of (rwD_len _ _ _ _ _ _ 8).1 (rwD_bd2 h8 _ _ _ 8)
theorem overB_false {c u : List Int} : ∀ {n : Nat}, (∀ i, i < n → u.getD i 0 ≤ c.getD i 0) → overB c u n = false
  | 0, _ => rfl
  | n + 1, h => by
    rw [overB_succ, overB_false (fun i hi => h i (by omega)), decide_eq_false (by have := h n (by omega); omega)]; rfl
theorem overB_le {c u : List Int} : ∀ {n : Nat}, overB c u n = false → ∀ i, i < n → u.getD i 0 ≤ c.getD i 0
  | 0, _, i, hi => by omega
  | n + 1, h, i, hi => by
    rw [overB_succ] at h
    obtain ⟨h1, h2⟩ := bor_false h
    by_cases e : i = n
    · subst e
      have := of_decide_eq_false h2
      omega
    · exact overB_le h1 i (by omega)
theorem tagL_mem {e : ByteArray} {u : List Int} : ∀ {n : Nat} {t : Tg}, t ∈ tagL e u n → t.e = e ∧ t.a < n ∧ 0 < u.getD t.a 0 ∧ t.n = (u.getD t.a 0).toNat
  | 0, t, h => by simp [tagL] at h
  | n + 1, t, h => by
    rw [tagL_succ] at h
    split at h
    · rename_i hp
      rcases List.mem_append.1 h with h | h
      · obtain ⟨a, b, c, d⟩ := tagL_mem h
        exact ⟨a, by omega, c, d⟩
      · rw [List.mem_singleton.1 h]; exact ⟨rfl, by simp, hp, rfl⟩
    · obtain ⟨a, b, c, d⟩ := tagL_mem h
      exact ⟨a, by omega, c, d⟩
theorem tagL_one (e : ByteArray) (u : List Int) : ∀ n, (tagL e u n).Pairwise fun s t => ¬ (s.e = t.e ∧ s.a = t.a)
  | 0 => List.Pairwise.nil
  | n + 1 => by
    rw [tagL_succ]
    split
    · refine List.pairwise_append.2 ⟨tagL_one e u n, List.pairwise_singleton _ _, fun s hs t ht => ?_⟩
      rw [List.mem_singleton.1 ht]
      have := (tagL_mem hs).2.1
      rintro ⟨-, h⟩
      simp only at h
      omega
    · exact tagL_one e u n
theorem tagL_to (e : ByteArray) (u : List Int) : To (tagL e u 8) := ⟨fun t ht => by
  obtain ⟨-, a, b, c⟩ := tagL_mem ht
  exact ⟨a, by omega⟩, tagL_one e u 8⟩
theorem tagL_num (e : ByteArray) (u : List Int) (x : ByteArray) (a : Nat) : ∀ n, numT (tagL e u n) x a = if x = e ∧ a < n ∧ 0 < u.getD a 0 then (u.getD a 0).toNat else 0
  | 0 => by rw [if_neg (by omega)]; rfl
  | n + 1 => by
    have ih := tagL_num e u x a n
    rw [tagL_succ]
    split
    · rename_i hp
      rw [numT_app]
      by_cases c : ∃ t ∈ tagL e u n, t.e = x ∧ t.a = a
      · rw [if_pos c, ih]
        obtain ⟨t, ht, h1, h2⟩ := c
        obtain ⟨k1, k2, k3, k4⟩ := tagL_mem ht
        rw [h2] at k2 k3
        rw [if_pos ⟨h1.symm.trans k1, k2, k3⟩, if_pos ⟨h1.symm.trans k1, by omega, k3⟩]
      · rw [if_neg c]
        unfold numT
        by_cases q : isT x a ⟨e, n, (u.getD n 0).toNat⟩ = true
        · rw [if_pos q]
          obtain ⟨q1, q2⟩ := isT_iff.1 q
          simp only at q1 q2
          subst q2
          rw [if_pos ⟨q1.symm, by omega, hp⟩]
        · rw [if_neg q]
          have hn : ¬ (x = e ∧ n = a) := fun k => q (isT_iff.2 ⟨k.1.symm, k.2⟩)
          have z : numT (tagL e u n) x a = 0 := by
            rcases numT_or (tagL e u n) x a with ⟨z, -⟩ | ⟨t, ht, z1, z2, -⟩
            · exact z
            · exact absurd ⟨t, ht, z1, z2⟩ c
          rw [ih] at z
          rw [show numT [] x a = 0 from rfl]
          by_cases k : x = e ∧ a < n + 1 ∧ 0 < u.getD a 0
          · exfalso
            by_cases e2 : n = a
            · exact hn ⟨k.1, e2⟩
            · rw [if_pos ⟨k.1, by omega, k.2.2⟩] at z
              omega
          · rw [if_neg k]
    · rename_i hp
      rw [ih]
      by_cases k : x = e ∧ a < n ∧ 0 < u.getD a 0
      · rw [if_pos k, if_pos ⟨k.1, by omega, k.2.2⟩]
      · rw [if_neg k]
        by_cases k2 : x = e ∧ a < n + 1 ∧ 0 < u.getD a 0
        · exfalso
          by_cases e2 : a = n
          · rw [e2] at k2; exact hp k2.2.2
          · exact k ⟨k2.1, by omega, k2.2.2⟩
        · rw [if_neg k2]
theorem tagL_ts {u : List Int} (hl : u.length = 8) (h0 : ∀ i, i < 8 → 0 ≤ u.getD i 0) (e : ByteArray) : Ts (tagL e u 8) (fun x => if x = e then u else zr) := by
  refine ⟨tagL_to e u, fun x => ?_, fun x a ha => ?_⟩
  · split
    · exact hl
    · rfl
  · rw [tagL_num]
    by_cases hx : x = e
    · rw [if_pos hx]
      by_cases hp : 0 < u.getD a 0
      · rw [if_pos ⟨hx, ha, hp⟩]; omega
      · rw [if_neg (fun k => hp k.2.2)]
        have := h0 a ha
        omega
    · rw [if_neg hx, if_neg (fun k => hx k.1), zrD]; rfl
theorem Wi.rw2' {d u : List Int} (h : Wi d u) (c : Cn u) : Rw 2 d := ⟨h.1, fun i hi => (h.2.2 i hi).1, fun i hi => by
  have h1 := (h.2.2 i hi).2
  have h2 := (c.2 i).2
  have h3 : (2 : Int) ^ (8 * 2) = 65536 := by decide
  omega⟩
theorem Fw.short {ts : List Tg} (h : ts.length ≤ 12) : Fw ts := fun a _ => Nat.le_trans (List.length_filter_le _ _) h
set_option maxHeartbeats 8000000 in
set_option maxRecDepth 100000 in
theorem dRead3 {w : World} {sl : Sl} {bs : List Nat} (h : Gv w sl bs) (hcp : sl.n ≤ sl.c) (hl : bs.length ≤ 64) : Calls Tryz.prog 46 #[.int .i64 3, .slice sl.p sl.n sl.c] w fun x w' => RdP w 3 bs x w' := by
  have HCp := hid hcp
  have HN := hid (rnew_ok w 3 (by omega) (by omega))
  have HG := hid h
  have Hl := hid hl
  obtain ⟨N, HNN⟩ : ∃ N, Hid (N = bs.length) := ⟨_, hid rfl⟩
  have hsn : sl.n = N := by rw [HNN.out]; exact h.len.symm
  have hn64 : ¬ ((N : Nat) : Int) > 64 := by rw [HNN.out]; omega
  have HU : Hid (U8 bs) := hid h.u8
  have Hsn := hid hsn
  rw [hsn]
  clear h hl hsn hcp
  go_enter Tryz.func46, Tryz.ntmps46
  go_upto_region 6 with (
    go_at_call 19
    refine HN.out.mono ?_
    rintro _ w1 ⟨V, rfl, hV, dV, aV⟩
    have HA1 := hid aV
    have HV := hid hV
    have HD0 := hid (dk0' dV)
    clear aV dV hV)
  obtain ⟨R, HR⟩ : ∃ R, Hid (R = w1.heap.size) := ⟨_, hid rfl⟩
  obtain ⟨w2, Hw2⟩ : ∃ W, Hid (W = w1.alloc (.cells #[.slice sl.p N sl.c, .int .i64 0, .bool false] 134)) := ⟨_, hid rfl⟩
  have HR2 : Hid (Dr w w2 R sl bs 0 false) := hid (by rw [Hw2.out, HR.out, ← Hsn.out]; exact Dr.new' HG.out Hl.out HA1.out)
  have HA2 : Hid (Apart [] w w2) := hid HR2.out.ap
  have HD2 : Hid (Dk w2 V (rv0 3) ⟨none, 0, 0⟩) := hid (HD0.out.kept0 (by rw [Hw2.out]; exact (Apart.refl [] w1).alloc _))
  have HVR : Hid (V < R) := hid (by rw [HR.out]; exact lt_of_heap HD0.out.dv.blk)
  go_upto_region 7 with (refine wpL_val rfl (.agg #[.slice sl.p N sl.c, .int .i64 0, .bool false]) (ex_build134 _ rfl rfl) ?_)
  rw [← HR.out, ← Hw2.out]
  clear Hw2 HN HD0 HA1
  have HC := hid (dnumber_ok HR2.out (k := 1) (by omega))
  obtain ⟨x0, Hx0⟩ : ∃ x, Hid (x = dnum bs 0 1) := ⟨_, hid rfl⟩
  rw [← Hx0.out] at HC
  by_cases hx : x0 = 3
  case neg =>
    have hxi : ((x0 : Int) != 3) = true := by simp only [bne_iff_ne, ne_eq]; omega
    have Hno : Hid (rdOk 3 bs = false) := hid (rdOk_no (by omega) (by omega) (by rw [← Hx0.out]; exact hx))
    go_wp2_with (
      go_at_call 62
      refine HC.out.mono ?_
      rintro _ w3 ⟨rfl, d3, a3⟩
      have HA3 : Hid (Apart [] w w3) := hid d3.ap
      clear d3 a3)
    go_ret2
    exact .inr ⟨Hno.out, rfl, HA3.out⟩
  case pos =>
  have hxi : ((x0 : Int) != 3) = false := by rw [hx]; rfl
  have Hhd := hid (dnum_head (k := 3) (by omega) (by rw [← Hx0.out]; exact hx))
  clear hx
  go_upto_region 9 with (
    go_at_call 62
    refine HC.out.mono ?_
    rintro _ w3 ⟨rfl, d3, a3⟩
    rw [Hhd.out.1, Hhd.out.2.1] at d3
    have HR3 : Hid (Dr w w3 R sl bs 1 false) := hid d3
    have HD3 := hid (HD2.out.kr HR2.out a3 (by have := HVR.out; omega))
    clear d3 a3)
  obtain ⟨l, hbs⟩ := Hhd.out.2.2
  have Hbs := hid hbs
  clear hbs
  have Hb1 : Hid (bs.drop 1 = l) := hid (by rw [Hbs.out]; rfl)
  clear hxi HC Hx0 Hhd HR2 HD2 HA2
  have HC := hid (drd_row1 HR3.out (size := 2) (by omega))
  obtain ⟨g, Hg⟩ : ∃ g, Hid (g = rowDD bs 1 false 2 false) := ⟨_, hid rfl⟩
  rw [← Hg.out] at HC
  have Hgl : Hid (g.u.length = 8 ∧ g.d.length = 8) := hid (by rw [Hg.out]; exact rwD_len _ _ _ _ _ _ 8)
  have Hgc : Hid (Cn g.u) := hid (by rw [Hg.out]; exact rowDD_cn HU.out _ _)
  go_upto_region 25 with (first
    | (go_at_call 63
       refine HC.out.mono ?_
       rintro _ w4 ⟨rfl, d4, a4⟩
       have HR4 := hid d4
       have HD4 := hid (HD3.out.kr HR3.out a4 (by have := HVR.out; omega))
       clear d4 a4)
    | (refine wpList_store_mid rfl 60 _ _ rfl V 17 (rv g.u).toArray rfl rfl (dk_there HD4.out 17 _ (by simp [rv_len, Hgl.out.1])) (by rw [size60]; simp [rv_len, Hgl.out.1]) (all_oneCell_toArray (rv_one _)) ?_
       simp only [List.toList_toArray]
       have HD5 := hid (HD4.out.rowC Hgl.out.1)
       have HR5 := hid (HR4.out.kv HD4.out (apart_setCells w4 V (rv g.u) 17) HV.out)
       generalize w4.setCells V 17 (rv g.u) = w5 at *))
  have HT := hid (drd_tags HR5.out HD5.out (Nw.none96 w w5 HR5.out.ap) HV.out (by show ([] : List Tg).length ≤ 9000; simp) ⟨#[]⟩)
  obtain ⟨g2, Hg2⟩ : ∃ g2, Hid (g2 = rowDD bs g.at_ g.bad 2 false) := ⟨_, hid rfl⟩
  obtain ⟨bf, Hbf⟩ : ∃ b, Hid (b = (g2.bad || overB g.u g2.u 8)) := ⟨_, hid rfl⟩
  obtain ⟨ts, Hts⟩ : ∃ b, Hid (b = tagL ⟨#[]⟩ g2.u 8) := ⟨_, hid rfl⟩
  obtain ⟨rf, Hrf⟩ : ∃ x : Rv, Hid (x = ⟨3, zr, zr, g.u, ts, 0, 0, ⟨#[]⟩⟩) := ⟨_, hid rfl⟩
  have HT2 : Hid (Calls Tryz.prog 64 #[.pointer (some ⟨R, 0, none⟩), .pointer (some ⟨V, 0, none⟩), .string ⟨#[]⟩] w5 fun x w' => x = .returned (.tuple #[]) ∧ Dr w w' R sl bs g2.at_ bf ∧ ∃ s', Dk w' V rf s') := hid (HT.out.mono (by
    rintro x w' ⟨h1, h2, s', h3, -⟩
    rw [← Hg2.out] at h2 h3
    refine ⟨h1, ?_, s', ?_⟩
    · rw [Hbf.out]; exact h2
    · rw [Hrf.out, Hts.out]; exact h3))
  clear HT HC HR3 HD3 HR4 HD4
  go_upto_region 32 with (
    go_at_call 64
    refine HT2.out.mono ?_
    rintro _ wf ⟨rfl, d6, s6, k6⟩
    have HRf := hid d6
    have HDf0 := hid k6
    clear d6 k6)
  obtain ⟨sf, Hsf⟩ : ∃ s : Sl, Hid (s = s6) := ⟨_, hid rfl⟩
  have HDf : Hid (Dk wf V rf sf) := hid (by rw [Hsf.out]; exact HDf0.out)
  clear HT2 HDf0 HR5 HD5
  have HRl := hid (lt_of_heap HRf.out.blk)
  have Hc2 := hid HRf.out.c2
  have HCv : Hid (∀ W, Apart [] w W → Sem.run Tryz.prog (convert 29 9 (.slice sl.p N sl.c)) W = .ok (.string (strB bs)) W) := hid (fun W a => by
    have := conv_bytes (HG.out.rd.kept0 a) HG.out.len HG.out.ok
    rw [Hsn.out] at this
    exact this)
  go_upto_region 32 with fail
  cases hbf : bf
  case true =>
    rw [hbf] at Hc2
    have Hno : Hid (rdOk 3 bs = false) := hid (by
      cases c : rdOk 3 bs
      · rfl
      · exfalso
        obtain ⟨c1, c2⟩ := rdOk_form c
        have gd := (readV_gd (k := 3) (by omega) (by omega) HU.out Hl.out c).1
        obtain ⟨u, d, e⟩ : ∃ u d, readV 3 bs = .flg u d := ⟨_, _, rfl⟩
        rw [e] at c1 c2 gd
        obtain ⟨ou, ow⟩ : Cn u ∧ Wi d u := gd
        have h3 : bs.drop 1 = rowB u 2 ++ rowB d 2 := by rw [← c2]; rfl
        obtain ⟨h4, h5, h6⟩ := rowDD_good1 ou.rw2 h3
        rw [← Hg.out] at h4 h5 h6
        rw [← List.append_nil (rowB d 2)] at h6
        obtain ⟨h7, h8, -⟩ := rowDD_good1 (ow.rw2' ou) h6
        rw [h4] at Hg2
        rw [← Hg2.out] at h7 h8
        have h10 := overB_false (n := 8) (fun i hi => (ow.2.2 i hi).2)
        have h11 := Hbf.out
        rw [hbf, h7, h5, h8, h10] at h11
        cases h11)
    have hAd : Apart [] wf wf.drew := (Apart.refl [] wf).drew
    refine wp_region_held_drew (S := fun W => Apart [] wf W) (by kernel_rfl) hAd (fun hHeld => ?_)
    generalize wf.drew = wd at *
    clear hAd
    refine tk 0 191 (.pointer (some ⟨R, 0, none⟩)) rfl ?_ ?_
    · intro W hSW; go_simp
    simp only [Act.put, List.setIfInBounds_toArray, List.set_cons_zero, List.set_cons_succ]
    refine tk 1 192 (.pointer (some ⟨R, 0, none⟩)) rfl ?_ ?_
    · intro W hSW; go_simp
    simp only [Act.put, List.setIfInBounds_toArray, List.set_cons_zero, List.set_cons_succ]
    refine tk 2 193 (.pointer (some ⟨R, 2, none⟩)) rfl ?_ ?_
    · intro W hSW; go_simp
    simp only [Act.put, List.setIfInBounds_toArray, List.set_cons_zero, List.set_cons_succ]
    refine tk 3 194 (.bool true) rfl ?_ ?_
    · intro W hSW; have z : W.cell? ⟨R, 2, none⟩ = some (.bool true) := (hSW.cell HRl.out (by simp)).trans Hc2.out; go_simp
    simp only [Act.put, List.setIfInBounds_toArray, List.set_cons_zero, List.set_cons_succ]
    refine tk 4 195 (.bool true) rfl ?_ ?_
    · intro W hSW; go_simp
    simp only [Act.put, List.setIfInBounds_toArray, List.set_cons_zero, List.set_cons_succ]
    refine tu 5 196 rfl ?_
    simp only [Act.put, List.setIfInBounds_toArray, List.set_cons_zero, List.set_cons_succ]
    refine tu 8 199 rfl ?_
    simp only [Act.put, List.setIfInBounds_toArray, List.set_cons_zero, List.set_cons_succ]
    refine tu 9 200 rfl ?_
    simp only [Act.put, List.setIfInBounds_toArray, List.set_cons_zero, List.set_cons_succ]
    refine wpAnyH_pass 6 (o := ⟨some 197, _, _, _, _, _⟩) (by kernel_rfl) rfl (by kernel_rfl) (by assumption) ?_
    simp only [Act.put, List.setIfInBounds_toArray, List.set_cons_zero, List.set_cons_succ]
    refine tu 7 198 rfl ?_
    simp only [Act.put, List.setIfInBounds_toArray, List.set_cons_zero, List.set_cons_succ]
    refine tu 10 201 rfl ?_
    simp only [Act.put, List.setIfInBounds_toArray, List.set_cons_zero, List.set_cons_succ]
    refine tk 11 202 (.bool true) rfl ?_ ?_
    · intro W hSW; go_simp
    simp only [Act.put, List.setIfInBounds_toArray, List.set_cons_zero, List.set_cons_succ]
    refine wpAnyH_done (by kernel_rfl) ?_ _
    have HAn := hid hHeld
    clear hHeld
    go_wp2_with fail
    go_ret2
    exact .inr ⟨Hno.out, rfl, HRf.out.ap.trans HAn.out⟩
  case false =>
    rw [hbf] at Hc2
    have Hb2 : Hid (g2.bad = false ∧ overB g.u g2.u 8 = false) := hid (bor_false (by rw [← Hbf.out]; exact hbf))
    have Hr2 : Hid (g.bad = false ∧ rowR (bs.drop g.at_) 2 = (g2.u, bs.drop g2.at_)) := hid (by
      have := rowDD_one (bs := bs) (a := g.at_) (b := g.bad) (size := 2) (by rw [← Hg2.out]; exact Hb2.out.1)
      rw [← Hg2.out] at this
      exact this)
    have Hr1 : Hid (rowR (bs.drop 1) 2 = (g.u, bs.drop g.at_)) := hid (by
      have := rowDD_one (bs := bs) (a := 1) (b := false) (size := 2) (by rw [← Hg.out]; exact Hr2.out.1)
      rw [← Hg.out] at this
      exact this.2)
    have Hv1 : Hid (readV 3 bs = .flg g.u g2.u) := hid (by
      show Vl.flg (rowR (bs.drop 1) 2).1 (rowR (rowR (bs.drop 1) 2).2 2).1 = _
      rw [Hr1.out, Hr2.out.2])
    have Hcn2 : Hid (Cn g2.u) := hid (by rw [Hg2.out]; exact rowDD_cn HU.out _ _)
    have Hwi : Hid (Wi g2.u g.u) := hid ⟨Hcn2.out.1, Hgc.out.1, fun i hi => ⟨(Hcn2.out.2 i).1, overB_le Hb2.out.2 i hi⟩⟩
    obtain ⟨v, Hv⟩ : ∃ v : Vl, Hid (v = .flg g.u g2.u) := ⟨_, hid rfl⟩
    have Hrv : Hid (readV 3 bs = v) := hid (by rw [Hv.out]; exact Hv1.out)
    have Hvr : Hid (rvO v ts = rf) := hid (by rw [Hv.out, Hrf.out]; rfl)
    have HRl2 : Hid (Rl v ts) := hid (by
      rw [Hv.out, Hts.out]
      exact ⟨tagL_ts Hcn2.out.1 (fun i hi => (Hcn2.out.2 i).1) ⟨#[]⟩, Fw.short (by have := tagL_len ⟨#[]⟩ g2.u 8; omega)⟩)
    have Hrt : Hid (rightV v = true) := hid (by rw [Hv.out]; show (gr g2.u g.u == g.u) = true; rw [gr_within Hwi.out]; simp)
    have HIv : Hid (Iv v) := hid (by rw [Hv.out]; exact ⟨⟨⟨Hgc.out, Hwi.out⟩, fun s a t e => by cases e⟩, fun x hx => by simp [elsR] at hx⟩)
    have HFo : Hid (∀ W, Apart [] wf W → Calls Tryz.prog 44 #[.pointer (some ⟨V, 0, none⟩)] W fun x w' => ∃ s', x = .returned (.slice s'.p s'.n s'.c) ∧ Bf W w' s' (formV v)) := hid (fun W aW => dform_any (by rw [Hvr.out]; exact HDf.out.kept0 aW) HRl2.out HIv.out)
    have HU2 : Hid (U8 (formV v)) := hid (formV_u8 v)
    by_cases he : formV v = bs
    · have Hne : Hid (((strB (formV v)).toList != (strB bs).toList) = false) := hid (by rw [he]; simp)
      have Hyes : Hid (rdOk 3 bs = true) := hid (by
        unfold rdOk
        rw [Hrv.out, Hrt.out, he]
        simp)
      have hAd : Apart [] wf wf.drew := (Apart.refl [] wf).drew
      refine wp_region_held_drew (S := fun W => Apart [] wf W) (by kernel_rfl) hAd (fun hHeld => ?_)
      generalize wf.drew = wd at *
      clear hAd
      refine tk 0 191 (.pointer (some ⟨R, 0, none⟩)) rfl ?_ ?_
      · intro W hSW; go_simp
      simp only [Act.put, List.setIfInBounds_toArray, List.set_cons_zero, List.set_cons_succ]
      refine tk 1 192 (.pointer (some ⟨R, 0, none⟩)) rfl ?_ ?_
      · intro W hSW; go_simp
      simp only [Act.put, List.setIfInBounds_toArray, List.set_cons_zero, List.set_cons_succ]
      refine tk 2 193 (.pointer (some ⟨R, 2, none⟩)) rfl ?_ ?_
      · intro W hSW; go_simp
      simp only [Act.put, List.setIfInBounds_toArray, List.set_cons_zero, List.set_cons_succ]
      refine tk 3 194 (.bool false) rfl ?_ ?_
      · intro W hSW; have z : W.cell? ⟨R, 2, none⟩ = some (.bool false) := (hSW.cell HRl.out (by simp)).trans Hc2.out; go_simp
      simp only [Act.put, List.setIfInBounds_toArray, List.set_cons_zero, List.set_cons_succ]
      refine tk 4 195 (.bool false) rfl ?_ ?_
      · intro W hSW; go_simp
      simp only [Act.put, List.setIfInBounds_toArray, List.set_cons_zero, List.set_cons_succ]
      refine tk 5 196 (.pointer (some ⟨V, 0, none⟩)) rfl ?_ ?_
      · intro W hSW; go_simp
      simp only [Act.put, List.setIfInBounds_toArray, List.set_cons_zero, List.set_cons_succ]
      refine tk 8 199 (.slice sl.p N sl.c) rfl ?_ ?_
      · intro W hSW; go_simp
      simp only [Act.put, List.setIfInBounds_toArray, List.set_cons_zero, List.set_cons_succ]
      refine tk 9 200 (.string (strB bs)) rfl ?_ ?_
      · intro W hSW; have hcv := HCv.out W (HRf.out.ap.trans hSW); go_simp
      simp only [Act.put, List.setIfInBounds_toArray, List.set_cons_zero, List.set_cons_succ]
      refine wpAnyH_ready (rs := [6]) (by kernel_rfl) (by simp) ?_
      refine AllReadyH.cons rfl (fun KK hKK => ?_) AllReadyH.nil
      go_simp
      refine (HFo.out wd hHeld).mono ?_
      rintro _ wa ⟨sf2, rfl, bff⟩
      have hHx := hHeld.trans bff.nw.ap
      try dsimp only
      refine hKK.out _ _ hHx (fun hHeld => ?_)
      clear hKK KK
      try simp only [Act.put, List.setIfInBounds_toArray, List.set_cons_zero, List.set_cons_succ]
      refine wpAnyH_ready (rs := [7]) (by kernel_rfl) (by simp) ?_
      refine AllReadyH.cons rfl (fun KK hKK => ?_) AllReadyH.nil
      have hcv := conv_bytes (w := wa) (Rd.own bff.nw.own) bff.len.symm bff.nw.ok
      go_simp
      refine hKK.out _ _ hHeld (fun hHeld => ?_)
      clear hKK KK
      try simp only [Act.put, List.setIfInBounds_toArray, List.set_cons_zero, List.set_cons_succ]
      refine tk 10 201 (.bool false) rfl ?_ ?_
      · intro W hSW; have hne := Hne.out; go_simp
      simp only [Act.put, List.setIfInBounds_toArray, List.set_cons_zero, List.set_cons_succ]
      refine tk 11 202 (.bool false) rfl ?_ ?_
      · intro W hSW; go_simp
      simp only [Act.put, List.setIfInBounds_toArray, List.set_cons_zero, List.set_cons_succ]
      refine wpAnyH_done (by kernel_rfl) ?_ _
      have HAn := hid hHeld
      clear hHeld bff
      have HDz := hid (HDf.out.kept0 HAn.out)
      go_wp2_with fail
      go_ret2
      exact .inl ⟨Hyes.out, ⟨V, sf, ts, rfl, HV.out, by rw [Hrv.out, Hvr.out]; exact HDz.out, by rw [Hrv.out]; exact HRl2.out⟩, HRf.out.ap.trans HAn.out⟩
    · have Hne : Hid (((strB (formV v)).toList != (strB bs).toList) = true) := hid (by
        have := strB_eq HU2.out HU.out
        rw [decide_eq_false he] at this
        rw [bne, this]; rfl)
      have Hno : Hid (rdOk 3 bs = false) := hid (by
        unfold rdOk
        rw [Hrv.out, decide_eq_false he]
        simp)
      have hAd : Apart [] wf wf.drew := (Apart.refl [] wf).drew
      refine wp_region_held_drew (S := fun W => Apart [] wf W) (by kernel_rfl) hAd (fun hHeld => ?_)
      generalize wf.drew = wd at *
      clear hAd
      refine tk 0 191 (.pointer (some ⟨R, 0, none⟩)) rfl ?_ ?_
      · intro W hSW; go_simp
      simp only [Act.put, List.setIfInBounds_toArray, List.set_cons_zero, List.set_cons_succ]
      refine tk 1 192 (.pointer (some ⟨R, 0, none⟩)) rfl ?_ ?_
      · intro W hSW; go_simp
      simp only [Act.put, List.setIfInBounds_toArray, List.set_cons_zero, List.set_cons_succ]
      refine tk 2 193 (.pointer (some ⟨R, 2, none⟩)) rfl ?_ ?_
      · intro W hSW; go_simp
      simp only [Act.put, List.setIfInBounds_toArray, List.set_cons_zero, List.set_cons_succ]
      refine tk 3 194 (.bool false) rfl ?_ ?_
      · intro W hSW; have z : W.cell? ⟨R, 2, none⟩ = some (.bool false) := (hSW.cell HRl.out (by simp)).trans Hc2.out; go_simp
      simp only [Act.put, List.setIfInBounds_toArray, List.set_cons_zero, List.set_cons_succ]
      refine tk 4 195 (.bool false) rfl ?_ ?_
      · intro W hSW; go_simp
      simp only [Act.put, List.setIfInBounds_toArray, List.set_cons_zero, List.set_cons_succ]
      refine tk 5 196 (.pointer (some ⟨V, 0, none⟩)) rfl ?_ ?_
      · intro W hSW; go_simp
      simp only [Act.put, List.setIfInBounds_toArray, List.set_cons_zero, List.set_cons_succ]
      refine tk 8 199 (.slice sl.p N sl.c) rfl ?_ ?_
      · intro W hSW; go_simp
      simp only [Act.put, List.setIfInBounds_toArray, List.set_cons_zero, List.set_cons_succ]
      refine tk 9 200 (.string (strB bs)) rfl ?_ ?_
      · intro W hSW; have hcv := HCv.out W (HRf.out.ap.trans hSW); go_simp
      simp only [Act.put, List.setIfInBounds_toArray, List.set_cons_zero, List.set_cons_succ]
      refine wpAnyH_ready (rs := [6]) (by kernel_rfl) (by simp) ?_
      refine AllReadyH.cons rfl (fun KK hKK => ?_) AllReadyH.nil
      go_simp
      refine (HFo.out wd hHeld).mono ?_
      rintro _ wa ⟨sf2, rfl, bff⟩
      have hHx := hHeld.trans bff.nw.ap
      try dsimp only
      refine hKK.out _ _ hHx (fun hHeld => ?_)
      clear hKK KK
      try simp only [Act.put, List.setIfInBounds_toArray, List.set_cons_zero, List.set_cons_succ]
      refine wpAnyH_ready (rs := [7]) (by kernel_rfl) (by simp) ?_
      refine AllReadyH.cons rfl (fun KK hKK => ?_) AllReadyH.nil
      have hcv := conv_bytes (w := wa) (Rd.own bff.nw.own) bff.len.symm bff.nw.ok
      go_simp
      refine hKK.out _ _ hHeld (fun hHeld => ?_)
      clear hKK KK
      try simp only [Act.put, List.setIfInBounds_toArray, List.set_cons_zero, List.set_cons_succ]
      refine tk 10 201 (.bool true) rfl ?_ ?_
      · intro W hSW; have hne := Hne.out; have hnp := bne_iff_ne.1 hne; go_simp
      simp only [Act.put, List.setIfInBounds_toArray, List.set_cons_zero, List.set_cons_succ]
      refine tk 11 202 (.bool true) rfl ?_ ?_
      · intro W hSW; go_simp
      simp only [Act.put, List.setIfInBounds_toArray, List.set_cons_zero, List.set_cons_succ]
      refine wpAnyH_done (by kernel_rfl) ?_ _
      have HAn := hid hHeld
      clear hHeld bff
      go_wp2_with fail
      go_ret2
      exact .inr ⟨Hno.out, rfl, HRf.out.ap.trans HAn.out⟩
end Go.Proofs.YtdbeeikjngnnnaaGreat.ty
