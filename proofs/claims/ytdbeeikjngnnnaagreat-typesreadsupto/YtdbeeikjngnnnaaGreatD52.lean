import Derived.Test.YtdbeeikjngnnnaaGreatChecked
import Derived.WalkKit
import Derived.ProofKit
import Derived.OpenShut
import Derived.Deep.QuietTactic
import Derived.BigQuiet
import Derived.BigRegion
import Derived.Laws.CopyOwn
import Derived.Laws.IdiomCopy
import Derived.WalkSmall
import Derived.Laws.ResultCell
import Derived.Laws.AppendOwnNone
import Derived.Deep.RegionHeld
import Derived.Deep.DeepAppendRoom
import Derived.Great.BuildSlice
import Derived.Deep.CutBlock
import Derived.Deep.RegionLaw
import Derived.ArgAppend
import Derived.Laws.Strings
import Derived.Laws.StructEq
import Derived.Below
import Derived.Deep.MidRow
import Derived.Great.Ranges
import Derived.Deep.RegionHeld3
import Derived.Laws.NewBlocks
import Derived.OrdersHeld
import Derived.Stop.BytesEq
import Derived.Laws.BytesString
import Derived.Lib.ConvBytes
import Derived.Laws.BitsAllLaws
import Derived.WalkLawsBesides
import Derived.Lib.Bytealg
import Derived.Laws.Externs
import Derived.Lib.SliceRun
import Derived.Lib.AppendZerosOnto
import Derived.Lib.AppendStr
import Derived.Lib.SlBytesConst
import Derived.Sort.Walk0
import Derived.Laws.Cover1
import Derived.Lib.Strings
import Derived.Lib.MinMaxS
import GoSem.Claim
import GoSem.ClaimJoined
import GoSem.ClaimMapViews
import Derived.JoinedTies
import Derived.KernelRfl
import Derived.JoinedCond
import Derived.ShutString
import Derived.ChangeOld
import Derived.Carry
import Derived.ChangeSlices
import Derived.Deep.Slices
import Derived.Deep.DeepHandedRow
import Derived.RowKit
import Derived.ChangeShapes
import Derived.SizedLaws
import Derived.ChangeMaps5
import Derived.Sort.WalkA
import Derived.Test.YtdbeeikjngnnnaaGreatRows
import Derived.Test.YtdbeeikjngnnnaaGreatD37
import Derived.Test.YtdbeeikjngnnnaaGreatD47
import Derived.Test.YtdbeeikjngnnnaaGreatD51
namespace Go.Proofs.YtdbeeikjngnnnaaGreat.ty
open Go.ChangeShapes Go.WideShapes Go.ChangeAt Go.RowKit
set_option linter.unusedVariables false
set_option linter.unusedSimpArgs false
variable {wB w w' w2 : World} {T k : Nat} {p r : Nat → Nat} {v : Nat → Vl} {ts : Nat → List Tg} {H L : List Sl} {sH sL : Sl} {h : Nat → Prop}
theorem dRead_any {w : World} {k : Nat} (h1 : 1 ≤ k) (h4 : k ≤ 4) {sl : Sl} {bs : List Nat} (h : Gv w sl bs) (hc : sl.n ≤ sl.c) (hl : bs.length ≤ 64) : Calls Tryz.prog 46 #[.int .i64 (k : Int), .slice sl.p sl.n sl.c] w fun x w' => RdP w k bs x w' := by
  obtain rfl | rfl | rfl | rfl : k = 1 ∨ k = 2 ∨ k = 3 ∨ k = 4 := by omega
  · exact dRead1 h hl
  · exact dRead2 h hc hl
  · exact dRead3 h hc hl
  · exact dRead4 h hc hl
theorem readV_iv {k : Nat} (h1 : 1 ≤ k) (h4 : k ≤ 4) {bs : List Nat} (h8 : U8 bs) (hl : bs.length ≤ 64) (hr : rdOk k bs = true) : Iv (readV k bs) := by
  have gd := (readV_gd h1 h4 h8 hl hr).1
  have hf := (rdOk_form hr).1
  refine ⟨⟨gd, fun s a t e => ?_⟩, fun x hx => ?_⟩
  · rw [e] at hf
    have hq : rtR s a t = true := hf
    unfold rtR at hq
    have h2 := (Bool.and_eq_true _ _ ▸ hq).1
    unfold isA at h2
    simp at h2
    omega
  · obtain rfl | rfl | rfl | rfl : k = 1 ∨ k = 2 ∨ k = 3 ∨ k = 4 := by omega
    · simp [readV, elsR] at hx
    · exact sr_size (show srR _ _ = true from hf) x hx
    · simp [readV, elsR] at hx
    · simp [readV, elsR] at hx
theorem tbC_p (k : Nat) (p r : Nat → Nat) (sH sL : Sl) {i : Nat} (hi : i < 4) (X : Nat) : (tbC k p r sH sL).set (1 + i) (ptV X) = tbC k (upd p i X) r sH sL := by
  obtain rfl | rfl | rfl | rfl : i = 0 ∨ i = 1 ∨ i = 2 ∨ i = 3 := by omega
  all_goals rfl
theorem Bf.kept' {wB w w' : World} {s : Sl} {us : List Nat} (h : Bf wB w s us) (a : Apart [] w w') : Bf wB w' s us := ⟨h.nw.kept a, h.len⟩
theorem Tb.k0 (t : Tb wB w T k p r v ts H L sH sL h) : w.cell? ⟨T, 0, none⟩ = some (.int .i64 (k : Int)) := dcell t.blk rfl
theorem Tb.kk (t : Tb wB w T k p r v ts H L sH sL h) : 1 ≤ k ∧ k ≤ 4 := by
  have h1 := t.kd 0 (by omega)
  rw [← h1]
  cases v 0 using Vl.el <;> simp [Vl.kd]
set_option maxHeartbeats 8000000 in
set_option maxRecDepth 100000 in
theorem reads_long (t : Tb wB w T k p r v ts H L sH sL h) {i : Nat} (hi : i < 4) {sl : Sl} {bs : List Nat} (gv : Gv w sl bs) (hcp : sl.n ≤ sl.c) (hlong : ¬ bs.length ≤ 64) : Calls Tryz.prog 24 #[.pointer (some ⟨T, 0, none⟩), .int .i64 (i : Int), .slice sl.p sl.n sl.c] w fun x w' => StP wB T k H L x w' := by
  have HT := hid t
  have Hi := hid hi
  have Hi4 : Hid (¬ (4 : Int) ≤ (i : Int)) := hid (by omega)
  have HGv := hid gv
  have Hcp := hid hcp
  have Hkk := hid t.kk
  have HLe := hid (lent_ok gv)
  obtain ⟨n, Hn'⟩ : ∃ n, Hid (n = sl.n) := ⟨_, hid rfl⟩
  have Hn : Hid (sl.n = n) := hid Hn'.out.symm
  have HnN : Hid (n = bs.length) := hid (by rw [← Hn.out]; exact gv.len.symm)
  have Hll : Hid (64 < bs.length) := hid (by omega)
  rw [Hn.out] at HLe ⊢
  clear t hi gv hcp hlong
  go_enter Tryz.func24, Tryz.ntmps24
  go_upto_region 2 with (
    go_at_call 35
    refine HLe.out.mono ?_
    rintro _ w2 ⟨s2, rfl, b2⟩
    have HS2 := hid b2
    clear b2)
  have HA02 : Hid (Apart [] w w2) := hid HS2.out.nw.ap
  have Hs2n : Hid (s2.n = n + 2) := hid (by rw [HS2.out.len, List.length_append, HnN.out]; rfl)
  have Hs2c : Hid (n ≤ s2.c) := hid (by have h1 := HS2.out.nw.cap; have h2 := Hs2n.out; omega)
  have HTl2 := hid (Nat.lt_of_lt_of_le (lt_of_heap HT.out.blk) HA02.out.size)
  have HTk2 := hid (HT.out.kept0 HA02.out).k0
  obtain ⟨s3, Hs3⟩ : ∃ z : Sl, Hid (z = s2.preB n) := ⟨_, hid rfl⟩
  have HP : Hid (∀ W, Apart [] w2 W → Calls Tryz.prog 45 #[.int .i64 (k : Int), .slice s3.p s3.n s3.c] W fun x w' => x = .returned (.tuple #[.pointer none, .int .i64 2]) ∧ Apart [] W w') := hid (fun W aW => (Read_long (w := W) k Hkk.out.1 Hkk.out.2 s3.p s3.n s3.c (by rw [Hs3.out]; show ((n : Nat) : Int) > 64; have := HnN.out; have := Hll.out; omega)).mono (by
    rintro x w' ⟨h1, h2⟩
    rw [h2]
    exact ⟨h1, Apart.refl [] W⟩))
  have hAd : Apart [] w2 w2.drew := (Apart.refl [] w2).drew
  refine wp_region_held_drew (S := fun W => Apart [] w2 W) (by kernel_rfl) hAd (fun hHeld => ?_)
  generalize w2.drew = wd at *
  clear hAd
  refine tk 0 15 (.pointer (some ⟨T, 0, none⟩)) rfl ?_ ?_
  · intro W hSW; go_simp
  simp only [Act.put, List.setIfInBounds_toArray, List.set_cons_zero, List.set_cons_succ]
  refine tk 1 16 (.pointer (some ⟨T, 0, none⟩)) rfl ?_ ?_
  · intro W hSW; go_simp
  simp only [Act.put, List.setIfInBounds_toArray, List.set_cons_zero, List.set_cons_succ]
  refine tk 2 17 (.pointer (some ⟨T, 0, none⟩)) rfl ?_ ?_
  · intro W hSW; go_simp
  simp only [Act.put, List.setIfInBounds_toArray, List.set_cons_zero, List.set_cons_succ]
  refine tk 3 18 (.int .i64 (k : Nat)) rfl ?_ ?_
  · intro W hSW; have z : W.cell? ⟨T, 0, none⟩ = some (.int .i64 (k : Nat)) := (hSW.cell HTl2.out (by simp)).trans HTk2.out; go_simp
  simp only [Act.put, List.setIfInBounds_toArray, List.set_cons_zero, List.set_cons_succ]
  refine tk 4 19 (.slice s2.p s2.n s2.c) rfl ?_ ?_
  · intro W hSW; go_simp
  simp only [Act.put, List.setIfInBounds_toArray, List.set_cons_zero, List.set_cons_succ]
  refine tk 5 20 (.slice sl.p n sl.c) rfl ?_ ?_
  · intro W hSW; go_simp
  simp only [Act.put, List.setIfInBounds_toArray, List.set_cons_zero, List.set_cons_succ]
  refine tk 6 21 (.int .i64 (n : Nat)) rfl ?_ ?_
  · intro W hSW; go_simp
  simp only [Act.put, List.setIfInBounds_toArray, List.set_cons_zero, List.set_cons_succ]
  refine tk 7 22 (.slice s3.p s3.n s3.c) rfl ?_ ?_
  · intro W hSW; rw [Hs3.out]; exact ex_preB s2 n _ _ rfl rfl rfl Hs2c.out
  simp only [Act.put, List.setIfInBounds_toArray, List.set_cons_zero, List.set_cons_succ]
  refine wpAnyH_ready (rs := [8]) (by kernel_rfl) (by simp) ?_
  refine AllReadyH.cons rfl (fun KK hKK => ?_) AllReadyH.nil
  go_simp
  refine (HP.out wd hHeld).mono ?_
  rintro _ wa ⟨rfl, aX⟩
  have hHx := hHeld.trans aX
  try dsimp only
  refine hKK.out _ _ hHx (fun hHeld => ?_)
  clear hKK KK
  try simp only [Act.put, List.setIfInBounds_toArray, List.set_cons_zero, List.set_cons_succ]
  refine tk 9 14 (.tuple #[.pointer none, .int .i64 2]) rfl ?_ ?_
  · intro W hSW; go_simp
  simp only [Act.put, List.setIfInBounds_toArray, List.set_cons_zero, List.set_cons_succ]
  refine tk 10 24 (.pointer none) rfl ?_ ?_
  · intro W hSW; go_simp
  simp only [Act.put, List.setIfInBounds_toArray, List.set_cons_zero, List.set_cons_succ]
  refine tk 11 25 (.int .i64 2) rfl ?_ ?_
  · intro W hSW; go_simp
  simp only [Act.put, List.setIfInBounds_toArray, List.set_cons_zero, List.set_cons_succ]
  refine tk 12 8 (.pointer none) rfl ?_ ?_
  · intro W hSW; go_simp
  simp only [Act.put, List.setIfInBounds_toArray, List.set_cons_zero, List.set_cons_succ]
  refine tk 13 9 (.int .i64 2) rfl ?_ ?_
  · intro W hSW; go_simp
  simp only [Act.put, List.setIfInBounds_toArray, List.set_cons_zero, List.set_cons_succ]
  refine wpAnyH_done (by kernel_rfl) ?_ _
  have HA3 := hid hHeld
  clear hHeld aX
  generalize wa = w3 at *
  have HA03 : Hid (Apart [] w w3) := hid (HA02.out.trans HA3.out)
  have HQ : Hid (Calls Tryz.prog 46 #[.int .i64 (k : Int), .slice sl.p n sl.c] w3 fun x w' => x = .returned (.tuple #[.pointer none, .int .i64 2]) ∧ Apart [] w3 w') := hid (dRead_long Hkk.out.1 Hkk.out.2 sl.p n sl.c (by have := HnN.out; have := Hll.out; omega))
  have zk := (HT.out.kept0 HA03.out).k0
  go_upto_region 4 with (
    go_at_call 46
    refine HQ.out.mono ?_
    rintro _ w4 ⟨rfl, a4⟩
    have HA4 := hid a4
    clear a4)
  clear zk
  have HA04 : Hid (Apart [] w w4) := hid (HA03.out.trans HA4.out)
  have HS4 : Hid (Bf w w4 s2 (bs ++ [7, 8])) := hid ((HS2.out.kept' HA3.out).kept' HA4.out)
  have HG4 := hid (HGv.out.kept0 HA04.out)
  have HSn : Hid (∀ P, s2.v.ownBlock = some P → w.heap.size ≤ P) := hid HS4.out.nw.new
  have HBk0 := back_ok HS4.out HG4.out
  rw [Hn.out] at HBk0
  have HBk := hid HBk0
  clear HBk0
  go_wp2_with (
    go_at_call 41
    refine HBk.out.mono ?_
    rintro _ w5 ⟨rfl, a5⟩
    have HA5 := hid a5
    clear a5)
  go_ret
  have hf : Apart [] w w5 := HA04.out.trans' HA5.out (fun y hy => .inr (HSn.out y (by simpa using hy)))
  exact ⟨rfl, p, r, v, ts, H, L, sH, sL, h, HT.out.kept0 hf, by omega, by omega, fun x hx => .inl hx, fun x hx => .inl hx⟩
set_option maxHeartbeats 8000000 in
set_option maxRecDepth 100000 in
theorem reads_bad (t : Tb wB w T k p r v ts H L sH sL h) {i : Nat} (hi : i < 4) {sl : Sl} {bs : List Nat} (gv : Gv w sl bs) (hcp : sl.n ≤ sl.c) (hl : bs.length ≤ 64) (hr : rdOk k bs = false) : Calls Tryz.prog 24 #[.pointer (some ⟨T, 0, none⟩), .int .i64 (i : Int), .slice sl.p sl.n sl.c] w fun x w' => StP wB T k H L x w' := by
  have HT := hid t
  have Hi := hid hi
  have Hi4 : Hid (¬ (4 : Int) ≤ (i : Int)) := hid (by omega)
  have HGv := hid gv
  have Hcp := hid hcp
  have Hkk := hid t.kk
  have HLe := hid (lent_ok gv)
  obtain ⟨n, Hn'⟩ : ∃ n, Hid (n = sl.n) := ⟨_, hid rfl⟩
  have Hn : Hid (sl.n = n) := hid Hn'.out.symm
  have HnN : Hid (n = bs.length) := hid (by rw [← Hn.out]; exact gv.len.symm)
  have Hll := hid hl
  have Hr := hid hr
  rw [Hn.out] at HLe ⊢
  clear t hi gv hcp hl hr
  go_enter Tryz.func24, Tryz.ntmps24
  go_upto_region 2 with (
    go_at_call 35
    refine HLe.out.mono ?_
    rintro _ w2 ⟨s2, rfl, b2⟩
    have HS2 := hid b2
    clear b2)
  have HA02 : Hid (Apart [] w w2) := hid HS2.out.nw.ap
  have Hs2n : Hid (s2.n = n + 2) := hid (by rw [HS2.out.len, List.length_append, HnN.out]; rfl)
  have Hs2c : Hid (n ≤ s2.c) := hid (by have h1 := HS2.out.nw.cap; have h2 := Hs2n.out; omega)
  have HTl2 := hid (Nat.lt_of_lt_of_le (lt_of_heap HT.out.blk) HA02.out.size)
  have HTk2 := hid (HT.out.kept0 HA02.out).k0
  obtain ⟨s3, Hs3⟩ : ∃ z : Sl, Hid (z = s2.preB n) := ⟨_, hid rfl⟩
  have HRdy : Hid (∀ W, Apart [] w2 W → Rdy k W s3 bs) := hid (fun W aW => by
    have h1 := ((Rd.own HS2.out.nw.own).kept0 aW : Rd W s2.p (byts (bs ++ [7, 8])))
    have h2 := h1.preB n
    rw [HnN.out, List.take_left, ← HnN.out] at h2
    rw [Hs3.out]
    exact ⟨h2, HnN.out.symm, Sl.preB_ok HS2.out.nw.ok (by have := Hs2n.out; omega), Hs2c.out, HGv.out.u8, Hll.out⟩)
  have HP : Hid (∀ W, Apart [] w2 W → Calls Tryz.prog 45 #[.int .i64 (k : Int), .slice s3.p s3.n s3.c] W fun x w' => x = .returned (.tuple #[.pointer none, .int .i64 190]) ∧ Apart [] W w') := hid (fun W aW => Read_bad k Hkk.out.1 Hkk.out.2 (HRdy.out W aW) Hr.out)
  have hAd : Apart [] w2 w2.drew := (Apart.refl [] w2).drew
  refine wp_region_held_drew (S := fun W => Apart [] w2 W) (by kernel_rfl) hAd (fun hHeld => ?_)
  generalize w2.drew = wd at *
  clear hAd
  refine tk 0 15 (.pointer (some ⟨T, 0, none⟩)) rfl ?_ ?_
  · intro W hSW; go_simp
  simp only [Act.put, List.setIfInBounds_toArray, List.set_cons_zero, List.set_cons_succ]
  refine tk 1 16 (.pointer (some ⟨T, 0, none⟩)) rfl ?_ ?_
  · intro W hSW; go_simp
  simp only [Act.put, List.setIfInBounds_toArray, List.set_cons_zero, List.set_cons_succ]
  refine tk 2 17 (.pointer (some ⟨T, 0, none⟩)) rfl ?_ ?_
  · intro W hSW; go_simp
  simp only [Act.put, List.setIfInBounds_toArray, List.set_cons_zero, List.set_cons_succ]
  refine tk 3 18 (.int .i64 (k : Nat)) rfl ?_ ?_
  · intro W hSW; have z : W.cell? ⟨T, 0, none⟩ = some (.int .i64 (k : Nat)) := (hSW.cell HTl2.out (by simp)).trans HTk2.out; go_simp
  simp only [Act.put, List.setIfInBounds_toArray, List.set_cons_zero, List.set_cons_succ]
  refine tk 4 19 (.slice s2.p s2.n s2.c) rfl ?_ ?_
  · intro W hSW; go_simp
  simp only [Act.put, List.setIfInBounds_toArray, List.set_cons_zero, List.set_cons_succ]
  refine tk 5 20 (.slice sl.p n sl.c) rfl ?_ ?_
  · intro W hSW; go_simp
  simp only [Act.put, List.setIfInBounds_toArray, List.set_cons_zero, List.set_cons_succ]
  refine tk 6 21 (.int .i64 (n : Nat)) rfl ?_ ?_
  · intro W hSW; go_simp
  simp only [Act.put, List.setIfInBounds_toArray, List.set_cons_zero, List.set_cons_succ]
  refine tk 7 22 (.slice s3.p s3.n s3.c) rfl ?_ ?_
  · intro W hSW; rw [Hs3.out]; exact ex_preB s2 n _ _ rfl rfl rfl Hs2c.out
  simp only [Act.put, List.setIfInBounds_toArray, List.set_cons_zero, List.set_cons_succ]
  refine wpAnyH_ready (rs := [8]) (by kernel_rfl) (by simp) ?_
  refine AllReadyH.cons rfl (fun KK hKK => ?_) AllReadyH.nil
  go_simp
  refine (HP.out wd hHeld).mono ?_
  rintro _ wa ⟨rfl, aX⟩
  have hHx := hHeld.trans aX
  try dsimp only
  refine hKK.out _ _ hHx (fun hHeld => ?_)
  clear hKK KK
  try simp only [Act.put, List.setIfInBounds_toArray, List.set_cons_zero, List.set_cons_succ]
  refine tk 9 14 (.tuple #[.pointer none, .int .i64 190]) rfl ?_ ?_
  · intro W hSW; go_simp
  simp only [Act.put, List.setIfInBounds_toArray, List.set_cons_zero, List.set_cons_succ]
  refine tk 10 24 (.pointer none) rfl ?_ ?_
  · intro W hSW; go_simp
  simp only [Act.put, List.setIfInBounds_toArray, List.set_cons_zero, List.set_cons_succ]
  refine tk 11 25 (.int .i64 190) rfl ?_ ?_
  · intro W hSW; go_simp
  simp only [Act.put, List.setIfInBounds_toArray, List.set_cons_zero, List.set_cons_succ]
  refine tk 12 8 (.pointer none) rfl ?_ ?_
  · intro W hSW; go_simp
  simp only [Act.put, List.setIfInBounds_toArray, List.set_cons_zero, List.set_cons_succ]
  refine tk 13 9 (.int .i64 190) rfl ?_ ?_
  · intro W hSW; go_simp
  simp only [Act.put, List.setIfInBounds_toArray, List.set_cons_zero, List.set_cons_succ]
  refine wpAnyH_done (by kernel_rfl) ?_ _
  have HA3 := hid hHeld
  clear hHeld aX
  generalize wa = w3 at *
  have HA03 : Hid (Apart [] w w3) := hid (HA02.out.trans HA3.out)
  have HQ : Hid (Calls Tryz.prog 46 #[.int .i64 (k : Int), .slice sl.p n sl.c] w3 fun x w' => x = .returned (.tuple #[.pointer none, .int .i64 190]) ∧ Apart [] w3 w') := hid (by
    have h0 := dRead_any (w := w3) Hkk.out.1 Hkk.out.2 (HGv.out.kept0 HA03.out) Hcp.out Hll.out
    rw [Hn.out] at h0
    refine h0.mono ?_
    rintro x w' (⟨h1, -, -⟩ | ⟨-, h2, h3⟩)
    · rw [Hr.out] at h1; cases h1
    · exact ⟨h2, h3⟩)
  have zk := (HT.out.kept0 HA03.out).k0
  go_upto_region 4 with (
    go_at_call 46
    refine HQ.out.mono ?_
    rintro _ w4 ⟨rfl, a4⟩
    have HA4 := hid a4
    clear a4)
  clear zk
  have HA04 : Hid (Apart [] w w4) := hid (HA03.out.trans HA4.out)
  have HS4 : Hid (Bf w w4 s2 (bs ++ [7, 8])) := hid ((HS2.out.kept' HA3.out).kept' HA4.out)
  have HG4 := hid (HGv.out.kept0 HA04.out)
  have HSn : Hid (∀ P, s2.v.ownBlock = some P → w.heap.size ≤ P) := hid HS4.out.nw.new
  have HBk0 := back_ok HS4.out HG4.out
  rw [Hn.out] at HBk0
  have HBk := hid HBk0
  clear HBk0
  go_wp2_with (
    go_at_call 41
    refine HBk.out.mono ?_
    rintro _ w5 ⟨rfl, a5⟩
    have HA5 := hid a5
    clear a5)
  go_ret
  have hf : Apart [] w w5 := HA04.out.trans' HA5.out (fun y hy => .inr (HSn.out y (by simpa using hy)))
  exact ⟨rfl, p, r, v, ts, H, L, sH, sL, h, HT.out.kept0 hf, by omega, by omega, fun x hx => .inl hx, fun x hx => .inl hx⟩
set_option maxHeartbeats 8000000 in
set_option maxRecDepth 100000 in
theorem reads_ok' (t : Tb wB w T k p r v ts H L sH sL h) {i : Nat} (hi : i < 4) {sl : Sl} {bs : List Nat} (gv : Gv w sl bs) (hcp : sl.n ≤ sl.c) (hl : bs.length ≤ 64) (hr : rdOk k bs = true) : Calls Tryz.prog 24 #[.pointer (some ⟨T, 0, none⟩), .int .i64 (i : Int), .slice sl.p sl.n sl.c] w fun x w' => StP wB T k H L x w' := by
  have HT := hid t
  have Hi := hid hi
  have Hi4 : Hid (¬ (4 : Int) ≤ (i : Int)) := hid (by omega)
  have HGv := hid gv
  have Hcp := hid hcp
  have Hkk := hid t.kk
  have HLe := hid (lent_ok gv)
  obtain ⟨n, Hn'⟩ : ∃ n, Hid (n = sl.n) := ⟨_, hid rfl⟩
  have Hn : Hid (sl.n = n) := hid Hn'.out.symm
  have HnN : Hid (n = bs.length) := hid (by rw [← Hn.out]; exact gv.len.symm)
  have Hll := hid hl
  have Hr := hid hr
  rw [Hn.out] at HLe ⊢
  clear t hi gv hcp hl hr
  go_enter Tryz.func24, Tryz.ntmps24
  go_upto_region 2 with (
    go_at_call 35
    refine HLe.out.mono ?_
    rintro _ w2 ⟨s2, rfl, b2⟩
    have HS2 := hid b2
    clear b2)
  have HA02 : Hid (Apart [] w w2) := hid HS2.out.nw.ap
  have Hs2n : Hid (s2.n = n + 2) := hid (by rw [HS2.out.len, List.length_append, HnN.out]; rfl)
  have Hs2c : Hid (n ≤ s2.c) := hid (by have h1 := HS2.out.nw.cap; have h2 := Hs2n.out; omega)
  have HTl2 := hid (Nat.lt_of_lt_of_le (lt_of_heap HT.out.blk) HA02.out.size)
  have HTk2 := hid (HT.out.kept0 HA02.out).k0
  obtain ⟨s3, Hs3⟩ : ∃ z : Sl, Hid (z = s2.preB n) := ⟨_, hid rfl⟩
  have HRdy : Hid (∀ W, Apart [] w2 W → Rdy k W s3 bs) := hid (fun W aW => by
    have h1 := ((Rd.own HS2.out.nw.own).kept0 aW : Rd W s2.p (byts (bs ++ [7, 8])))
    have h2 := h1.preB n
    rw [HnN.out, List.take_left, ← HnN.out] at h2
    rw [Hs3.out]
    exact ⟨h2, HnN.out.symm, Sl.preB_ok HS2.out.nw.ok (by have := Hs2n.out; omega), Hs2c.out, HGv.out.u8, Hll.out⟩)
  have HP : Hid (∀ W, Apart [] w2 W → Calls Tryz.prog 45 #[.int .i64 (k : Int), .slice s3.p s3.n s3.c] W fun x w' => ∃ V, x = .returned (.tuple #[.pointer (some ⟨V, 0, none⟩), .int .i64 0]) ∧ W.heap.size ≤ V ∧ Ho w' V (readV k bs) ∧ Apart [] W w') := hid (fun W aW => Read_ok k Hkk.out.1 Hkk.out.2 (HRdy.out W aW) Hr.out)
  have hAd : Apart [] w2 w2.drew := (Apart.refl [] w2).drew
  refine wp_region_held_drew (S := fun W => Apart [] w2 W) (by kernel_rfl) hAd (fun hHeld => ?_)
  generalize w2.drew = wd at *
  clear hAd
  refine tk 0 15 (.pointer (some ⟨T, 0, none⟩)) rfl ?_ ?_
  · intro W hSW; go_simp
  simp only [Act.put, List.setIfInBounds_toArray, List.set_cons_zero, List.set_cons_succ]
  refine tk 1 16 (.pointer (some ⟨T, 0, none⟩)) rfl ?_ ?_
  · intro W hSW; go_simp
  simp only [Act.put, List.setIfInBounds_toArray, List.set_cons_zero, List.set_cons_succ]
  refine tk 2 17 (.pointer (some ⟨T, 0, none⟩)) rfl ?_ ?_
  · intro W hSW; go_simp
  simp only [Act.put, List.setIfInBounds_toArray, List.set_cons_zero, List.set_cons_succ]
  refine tk 3 18 (.int .i64 (k : Nat)) rfl ?_ ?_
  · intro W hSW; have z : W.cell? ⟨T, 0, none⟩ = some (.int .i64 (k : Nat)) := (hSW.cell HTl2.out (by simp)).trans HTk2.out; go_simp
  simp only [Act.put, List.setIfInBounds_toArray, List.set_cons_zero, List.set_cons_succ]
  refine tk 4 19 (.slice s2.p s2.n s2.c) rfl ?_ ?_
  · intro W hSW; go_simp
  simp only [Act.put, List.setIfInBounds_toArray, List.set_cons_zero, List.set_cons_succ]
  refine tk 5 20 (.slice sl.p n sl.c) rfl ?_ ?_
  · intro W hSW; go_simp
  simp only [Act.put, List.setIfInBounds_toArray, List.set_cons_zero, List.set_cons_succ]
  refine tk 6 21 (.int .i64 (n : Nat)) rfl ?_ ?_
  · intro W hSW; go_simp
  simp only [Act.put, List.setIfInBounds_toArray, List.set_cons_zero, List.set_cons_succ]
  refine tk 7 22 (.slice s3.p s3.n s3.c) rfl ?_ ?_
  · intro W hSW; rw [Hs3.out]; exact ex_preB s2 n _ _ rfl rfl rfl Hs2c.out
  simp only [Act.put, List.setIfInBounds_toArray, List.set_cons_zero, List.set_cons_succ]
  refine wpAnyH_ready (rs := [8]) (by kernel_rfl) (by simp) ?_
  refine AllReadyH.cons rfl (fun KK hKK => ?_) AllReadyH.nil
  go_simp
  have hHd0 := hHeld
  refine (HP.out wd hHeld).mono ?_
  rintro _ wa ⟨V, rfl, hV, hO, aX⟩
  have hHx := hHeld.trans aX
  try dsimp only
  refine hKK.out _ _ hHx (fun hHeld => ?_)
  clear hKK KK
  try simp only [Act.put, List.setIfInBounds_toArray, List.set_cons_zero, List.set_cons_succ]
  refine tk 9 14 (.tuple #[.pointer (some ⟨V, 0, none⟩), .int .i64 0]) rfl ?_ ?_
  · intro W hSW; go_simp
  simp only [Act.put, List.setIfInBounds_toArray, List.set_cons_zero, List.set_cons_succ]
  refine tk 10 24 (.pointer (some ⟨V, 0, none⟩)) rfl ?_ ?_
  · intro W hSW; go_simp
  simp only [Act.put, List.setIfInBounds_toArray, List.set_cons_zero, List.set_cons_succ]
  refine tk 11 25 (.int .i64 0) rfl ?_ ?_
  · intro W hSW; go_simp
  simp only [Act.put, List.setIfInBounds_toArray, List.set_cons_zero, List.set_cons_succ]
  refine tk 12 8 (.pointer (some ⟨V, 0, none⟩)) rfl ?_ ?_
  · intro W hSW; go_simp
  simp only [Act.put, List.setIfInBounds_toArray, List.set_cons_zero, List.set_cons_succ]
  refine tk 13 9 (.int .i64 0) rfl ?_ ?_
  · intro W hSW; go_simp
  simp only [Act.put, List.setIfInBounds_toArray, List.set_cons_zero, List.set_cons_succ]
  refine wpAnyH_done (by kernel_rfl) ?_ _
  have HA3 := hid hHeld
  have HVn : Hid (w2.heap.size ≤ V) := hid (Nat.le_trans hHd0.size hV)
  have HVo := hid hO
  clear hHeld hV hO aX hHd0
  generalize wa = w3 at *
  have HA03 : Hid (Apart [] w w3) := hid (HA02.out.trans HA3.out)
  have HQ : Hid (Calls Tryz.prog 46 #[.int .i64 (k : Int), .slice sl.p n sl.c] w3 fun x w' => ∃ O, x = .returned (.tuple #[.pointer (some ⟨O, 0, none⟩), .int .i64 0]) ∧ Hid (w3.heap.size ≤ O ∧ ∃ s' ts', Dk w' O (rvO (readV k bs) ts') s' ∧ Rl (readV k bs) ts') ∧ Apart [] w3 w') := hid (by
    have h0 := dRead_any (w := w3) Hkk.out.1 Hkk.out.2 (HGv.out.kept0 HA03.out) Hcp.out Hll.out
    rw [Hn.out] at h0
    refine h0.mono ?_
    rintro x w' (⟨-, ⟨O, s', ts', h1, h2, h3, h4⟩, h5⟩ | ⟨h1, -, -⟩)
    · exact ⟨O, h1, hid ⟨h2, s', ts', h3, h4⟩, h5⟩
    · rw [Hr.out] at h1; cases h1)
  have zk := (HT.out.kept0 HA03.out).k0
  go_upto_region 4 with (
    go_at_call 46
    refine HQ.out.mono ?_
    rintro _ w4 ⟨O, rfl, hO4, a4⟩
    have HA4 := hid a4
    have HO4 := hid hO4.out
    clear a4 hO4)
  clear zk
  have HA04 : Hid (Apart [] w w4) := hid (HA03.out.trans HA4.out)
  have HS4 : Hid (Bf w w4 s2 (bs ++ [7, 8])) := hid ((HS2.out.kept' HA3.out).kept' HA4.out)
  have HG4 := hid (HGv.out.kept0 HA04.out)
  have HSn : Hid (∀ P, s2.v.ownBlock = some P → w.heap.size ≤ P) := hid HS4.out.nw.new
  have HBk0 := back_ok HS4.out HG4.out
  rw [Hn.out] at HBk0
  have HBk := hid HBk0
  clear HBk0
  have HTb4 : Hid (w4.heap[T]? = some (.cells (tbC k p r sH sL).toArray 49 (0, 0))) := hid (keep0 HA04.out HT.out.blk)
  have HVo4 := hid (HVo.out.kept0 HA4.out)
  have HX5 : Hid (∀ ty : Nat, ty ≠ 5 → ∀ q ∈ s2.v.ownBlock.toList, ∀ cur m, w4.heap[q]? ≠ some (.cells cur ty m)) := hid (fun ty hty q hq cur m e => by
    obtain ⟨c, e2⟩ := own_typ HS4.out.nw.own (k := q) (by simpa using hq)
    rw [e] at e2
    simp only [Option.some.injEq, Obj.cells.injEq] at e2
    exact hty e2.2.1)
  have hi4 := Hi4.out
  go_upto_region 7 with (
    go_at_call 41
    refine HBk.out.mono ?_
    rintro _ w5 ⟨rfl, a5⟩
    have HA5 := hid a5
    have HTb5 : Hid (w5.heap[T]? = some (.cells (tbC k p r sH sL).toArray 49 (0, 0))) := hid ((a5.block T (lt_of_heap HTb4.out) (fun hm => HX5.out 49 (by decide) T hm _ _ HTb4.out)).trans HTb4.out)
    have z1 : w5.cell? ⟨T, 1 + i, none⟩ = some (.pointer (some ⟨p i, 0, none⟩)) := dcell HTb5.out (tb_p _ _ _ _ _ Hi.out)
    have f1 := frozen_of_row _ _ (1 + i) _ _ HTb5.out
    clear a5)
  obtain ⟨sO, tO, hdO, hrO⟩ := HO4.out.2
  have HDk := hid hdO
  have HRl := hid hrO
  have HOn := hid HO4.out.1
  clear hdO hrO
  have HVo5 : Hid (Ho w5 V (readV k bs)) := hid (HVo4.out.keptX HA5.out (fun hm => by
    obtain ⟨b0, hb0⟩ := HVo4.out.bd
    exact HX5.out 71 (by decide) V hm _ _ hb0) (HX5.out _ (by decide)))
  have HDk5 : Hid (Dk w5 O (rvO (readV k bs) tO) sO) := hid (HDk.out.other HA5.out (fun hm => HX5.out 63 (by decide) O hm _ _ HDk.out.dv.blk) (HX5.out _ (by decide)))
  go_upto_region 8 with fail
  clear z1 f1
  have HTb6 : Hid ((w5.setCell ⟨T, 1 + i, none⟩ (.pointer (some ⟨V, 0, none⟩))).heap[T]? = some (.cells (tbC k (upd p i V) r sH sL).toArray 49 (0, 0))) := hid (by
    rw [heap_setCell_same w5 T (1 + i) _ 49 _ HTb5.out, List.setIfInBounds_toArray]
    have := tbC_p k p r sH sL Hi.out V
    unfold ptV at this
    rw [this])
  have HA6 : Hid (Apart [T] w5 (w5.setCell ⟨T, 1 + i, none⟩ (.pointer (some ⟨V, 0, none⟩)))) := hid ((Apart.refl [T] w5).setCell (.inl (by simp)) _)
  generalize w5.setCell ⟨T, 1 + i, none⟩ (.pointer (some ⟨V, 0, none⟩)) = w6 at *
  have z5 : w6.cell? ⟨T, 5 + i, none⟩ = some (.pointer (some ⟨r i, 0, none⟩)) := dcell HTb6.out (tb_r _ _ _ _ _ Hi.out)
  have f5 := frozen_of_row _ _ (5 + i) _ _ HTb6.out
  have HTb7 : Hid ((w6.setCell ⟨T, 5 + i, none⟩ (.pointer (some ⟨O, 0, none⟩))).heap[T]? = some (.cells (tbC k (upd p i V) (upd r i O) sH sL).toArray 49 (0, 0))) := hid (by
    rw [heap_setCell_same w6 T (5 + i) _ 49 _ HTb6.out, List.setIfInBounds_toArray]
    have := tbC_r k (upd p i V) r sH sL Hi.out O
    unfold ptV at this
    rw [this])
  have HA7 : Hid (Apart [T] w5 (w6.setCell ⟨T, 5 + i, none⟩ (.pointer (some ⟨O, 0, none⟩)))) := hid (HA6.out.setCell (.inl (by simp)) _)
  have HXT : Hid (∀ ty : Nat, ty ≠ 49 → ∀ q ∈ [T], ∀ cur m, w5.heap[q]? ≠ some (.cells cur ty m)) := hid (fun ty hty q hq cur m e => by
    rw [List.mem_singleton.1 hq, HTb5.out] at e
    simp only [Option.some.injEq, Obj.cells.injEq] at e
    exact hty e.2.1.symm)
  have HFin : Hid (StP wB T k H L (.returned (.bool true)) (w6.setCell ⟨T, 5 + i, none⟩ (.pointer (some ⟨O, 0, none⟩)))) := hid (by
    have hv7 := HVo5.out.keptX HA7.out (fun hm => by
      obtain ⟨b0, hb0⟩ := HVo5.out.bd
      exact HXT.out 71 (by decide) V hm _ _ hb0) (HXT.out _ (by decide))
    have hd7 := HDk5.out.other HA7.out (fun hm => HXT.out 63 (by decide) O hm _ _ HDk5.out.dv.blk) (HXT.out _ (by decide))
    have ha : Apart [p i, r i, T] w (w6.setCell ⟨T, 5 + i, none⟩ (.pointer (some ⟨O, 0, none⟩))) := ((HA04.out.trans' HA5.out (fun y hy => .inr (HSn.out y (by simpa using hy)))).mono (by simp)).trans (HA7.out.mono (by simp))
    refine ⟨rfl, _, _, _, _, H, L, sH, sL, h, HT.out.next Hi.out (p' := V) (r' := O) ha HTb7.out (.inr (Nat.le_trans HA02.out.size HVn.out)) (.inr (Nat.le_trans HA03.out.size HOn.out)) hv7 hd7 (readV_iv Hkk.out.1 Hkk.out.2 HGv.out.u8 Hll.out Hr.out) HRl.out (readV_kd Hkk.out.1 Hkk.out.2 bs), by omega, by omega, fun x hx => .inl hx, fun x hx => .inl hx⟩)
  go_wp2_with fail
  go_ret
  exact HFin.out
theorem reads_ok (t : Tb wB w T k p r v ts H L sH sL h) {i : Nat} (hi : i < 4) {sl : Sl} {bs : List Nat} (gv : Gv w sl bs) (hcp : sl.n ≤ sl.c) : Calls Tryz.prog 24 #[.pointer (some ⟨T, 0, none⟩), .int .i64 (i : Int), .slice sl.p sl.n sl.c] w fun x w' => StP wB T k H L x w' := by
  by_cases hl : bs.length ≤ 64
  · cases hr : rdOk k bs
    · exact reads_bad t hi gv hcp hl hr
    · exact reads_ok' t hi gv hcp hl hr
  · exact reads_long t hi gv hcp hl
end Go.Proofs.YtdbeeikjngnnnaaGreat.ty
