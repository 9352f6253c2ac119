import Derived.Test.YtdbeeikjngnnnaaGreatC35
import Derived.Test.YtdbeeikjngnnnaaGreatC37
import Derived.Test.YtdbeeikjngnnnaaGreatC45
namespace Go.Proofs.YtdbeeikjngnnnaaGreat.ty
open Go.ChangeShapes Go.WideShapes Go.ChangeAt Go.RowKit
set_option linter.unusedVariables false
set_option linter.unusedSimpArgs false
set_option maxRecDepth 100000
set_option maxHeartbeats 8000000
variable {wB w w' w2 : World} {T k : Nat} {p r : Nat → Nat} {v : Nat → Vl} {ts : Nat → List Tg} {H L : List Sl} {sH sL : Sl} {h : Nat → Prop}
theorem dRead_any {w : World} {k : Nat} (h1 : 1 ≤ k) (h4 : k ≤ 4) {sl : Sl} {bs : List Nat} (h : Gv w sl bs) (hc : sl.n ≤ sl.c) (hl : bs.length ≤ 64) : Calls Tryz.prog 46 #[.int .i64 (k : Int), .slice sl.p sl.n sl.c] w fun x w' => RdP w k bs x w' := by
 obtain rfl | rfl | rfl | rfl : k = 1 ∨ k = 2 ∨ k = 3 ∨ k = 4 := by omega
 ·exact dRead1 h hl
 ·exact dRead2 h hc hl
 ·exact dRead3 h hc hl
 ·exact dRead4 h hc hl
theorem readV_iv {k : Nat} (h1 : 1 ≤ k) (h4 : k ≤ 4) {bs : List Nat} (h8 : U8 bs) (hl : bs.length ≤ 64) (hr : rdOk k bs = true) : Iv (readV k bs) := by
 have gd := (readV_gd h1 h4 h8 hl hr).1
 have hf := (rdOk_form hr).1
 refine ⟨⟨gd, fun s a t e => ?_⟩, fun x hx => ?_⟩
 ·rw [e] at hf
  have hq : rtR s a t = true := hf
  unfold rtR at hq
  have h2 := (Bool.and_eq_true _ _ ▸ hq).1
  unfold isA at h2
  simp at h2
  omega
 ·obtain rfl | rfl | rfl | rfl : k = 1 ∨ k = 2 ∨ k = 3 ∨ k = 4 := by omega
  ·simp [readV, elsR] at hx
  ·exact sr_size (show srR _ _ = true from hf) x hx
  ·simp [readV, elsR] at hx
  ·simp [readV, elsR] at hx
theorem tbC_p (k : Nat) (p r : Nat → Nat) (sH sL : Sl) {i : Nat} (hi : i < 4) (X : Nat) : (tbC k p r sH sL).set (1 + i) (ptV X) = tbC k (upd p i X) r sH sL := by
 obtain rfl | rfl | rfl | rfl : i = 0 ∨ i = 1 ∨ i = 2 ∨ i = 3 := by omega
 all_goals rfl
theorem Bf.kept' {wB w w' : World} {s : Sl} {us : List Nat} (h : Bf wB w s us) (a : Apart [] w w') : Bf wB w' s us := ⟨h.nw.kept a, h.len⟩
theorem Tb.k0 (t : Tb wB w T k p r v ts H L sH sL h) : w.cell? ⟨T, 0, none⟩ = some (.int .i64 (k : Int)) := dcell t.blk rfl
theorem Tb.kk (t : Tb wB w T k p r v ts H L sH sL h) : 1 ≤ k ∧ k ≤ 4 := by
 have h1 := t.kd 0 (by omega)
 rw [← h1]
 cases v 0 using Vl.el <;> simp [Vl.kd]
theorem reads_long (t : Tb wB w T k p r v ts H L sH sL h) {i : Nat} (hi : i < 4) {sl : Sl} {bs : List Nat} (gv : Gv w sl bs) (hcp : sl.n ≤ sl.c) (hlong : ¬ bs.length ≤ 64) : Calls Tryz.prog 24 #[.pointer (some ⟨T, 0, none⟩), .int .i64 (i : Int), .slice sl.p sl.n sl.c] w fun x w' => StP wB T k H L x w' := by
 have HT := hid t
 have Hi := hid hi
 have Hi4 : Hid (¬ (4 : Int) ≤ (i : Int)) := hid (by omega)
 have HGv := hid gv
 have Hcp := hid hcp
 have Hkk := hid t.kk
 have HLe := hid (lent_ok gv)
 obtain ⟨n, Hn'⟩ : ∃ n, Hid (n = sl.n) := ⟨_, hid rfl⟩
 have Hn : Hid (sl.n = n) := hid Hn'.out.symm
 have HnN : Hid (n = bs.length) := hid (by rw [← Hn.out]; exact gv.len.symm)
 have Hll : Hid (64 < bs.length) := hid (by omega)
 rw [Hn.out] at HLe ⊢
 clear t hi gv hcp hlong
 go_enter Tryz.func24, Tryz.ntmps24
 go_upto_region 2 with (
  go_at_call 35
  refine HLe.out.mono ?_
  rintro _ w2 ⟨s2, rfl, b2⟩
  have HS2 := hid b2
  clear b2)
 have HA02 : Hid (Apart [] w w2) := hid HS2.out.nw.ap
 have Hs2n : Hid (s2.n = n + 2) := hid (by rw [HS2.out.len, List.length_append, HnN.out]; rfl)
 have Hs2c : Hid (n ≤ s2.c) := hid (by have h1 := HS2.out.nw.cap; have h2 := Hs2n.out; omega)
 have HTl2 := hid (Nat.lt_of_lt_of_le (lt_of_heap HT.out.blk) HA02.out.size)
 have HTk2 := hid (HT.out.kept0 HA02.out).k0
 obtain ⟨s3, Hs3⟩ : ∃ z : Sl, Hid (z = s2.preB n) := ⟨_, hid rfl⟩
 have HP : Hid (∀ W, Apart [] w2 W → Calls Tryz.prog 45 #[.int .i64 (k : Int), .slice s3.p s3.n s3.c] W fun x w' => x = .returned (.tuple #[.pointer none, .int .i64 2]) ∧ Apart [] W w') := hid (fun W aW => (Read_long (w := W) k Hkk.out.1 Hkk.out.2 s3.p s3.n s3.c (by rw [Hs3.out]; show ((n : Nat) : Int) > 64; have := HnN.out; have := Hll.out; omega)).mono (by
  rintro x w' ⟨h1, h2⟩
  rw [h2]
  exact ⟨h1, Apart.refl [] W⟩))
 refine wp_region_held_drew (S := fun W => Apart [] w2 W) (by kernel_rfl) (Apart.refl [] w2).drew fun hHeld => ?_
 generalize w2.drew = wd at *
 refine zt 0 15 ?_
 refine zt 1 16 ?_
 refine zt 2 17 ?_
 refine zu 3 18 rfl (fun W hSW => by have z : W.cell? ⟨T, 0, none⟩ = some (.int .i64 (k : Nat)) := (hSW.cell HTl2.out (by simp)).trans HTk2.out; go_simp <;> rfl) ?_
 simp only [zA,zB,zC,zD,zF]
 refine zt 4 19 ?_
 refine zt 5 20 ?_
 refine zt 6 21 ?_
 simp only [zA,zB,zC,zD,zF]
 refine tk 7 22 (.slice s3.p s3.n s3.c) rfl ?_ ?_
 ·intro W hSW; rw [Hs3.out]; exact ex_preB s2 n _ _ rfl rfl rfl Hs2c.out
 simp only [zA,zB,zC,zD,zF]
 refine zQ 8 fun KK hKK => ?_
 go_simp
 refine (HP.out wd hHeld).mono ?_
 rintro _ wa ⟨rfl, aX⟩
 have hHx := hHeld.trans aX
 try dsimp only
 refine hKK.out _ _ hHx (fun hHeld => ?_)
 clear hKK KK
 try simp only [zA,zB,zC,zD,zF]
 refine zt 9 14 ?_
 refine zt 10 24 ?_
 refine zt 11 25 ?_
 refine zt 12 8 ?_
 refine zt 13 9 ?_
 simp only [zA,zB,zC,zD,zF]
 refine wpAnyH_done (by kernel_rfl) ?_ _
 have HA3 := hid hHeld
 clear hHeld aX
 generalize wa = w3 at *
 have HA03 : Hid (Apart [] w w3) := hid (HA02.out.trans HA3.out)
 have HQ : Hid (Calls Tryz.prog 46 #[.int .i64 (k : Int), .slice sl.p n sl.c] w3 fun x w' => x = .returned (.tuple #[.pointer none, .int .i64 2]) ∧ Apart [] w3 w') := hid (dRead_long Hkk.out.1 Hkk.out.2 sl.p n sl.c (by have := HnN.out; have := Hll.out; omega))
 have zk := (HT.out.kept0 HA03.out).k0
 go_upto_region 4 with (
  go_at_call 46
  refine HQ.out.mono ?_
  rintro _ w4 ⟨rfl, a4⟩
  have HA4 := hid a4
  clear a4)
 clear zk
 have HA04 : Hid (Apart [] w w4) := hid (HA03.out.trans HA4.out)
 have HS4 : Hid (Bf w w4 s2 (bs ++ [7, 8])) := hid ((HS2.out.kept' HA3.out).kept' HA4.out)
 have HG4 := hid (HGv.out.kept0 HA04.out)
 have HSn : Hid (∀ P, s2.v.ownBlock = some P → w.heap.size ≤ P) := hid HS4.out.nw.new
 have HBk0 := back_ok HS4.out HG4.out
 rw [Hn.out] at HBk0
 have HBk := hid HBk0
 clear HBk0
 go_wp2_with (
  go_at_call 41
  refine HBk.out.mono ?_
  rintro _ w5 ⟨rfl, a5⟩
  have HA5 := hid a5
  clear a5)
 go_ret
 have hf : Apart [] w w5 := HA04.out.trans' HA5.out (fun y hy => .inr (HSn.out y (by simpa using hy)))
 exact ⟨rfl, p, r, v, ts, H, L, sH, sL, h, HT.out.kept0 hf, by omega, by omega, fun x hx => .inl hx, fun x hx => .inl hx⟩
theorem reads_bad (t : Tb wB w T k p r v ts H L sH sL h) {i : Nat} (hi : i < 4) {sl : Sl} {bs : List Nat} (gv : Gv w sl bs) (hcp : sl.n ≤ sl.c) (hl : bs.length ≤ 64) (hr : rdOk k bs = false) : Calls Tryz.prog 24 #[.pointer (some ⟨T, 0, none⟩), .int .i64 (i : Int), .slice sl.p sl.n sl.c] w fun x w' => StP wB T k H L x w' := by
 have HT := hid t
 have Hi := hid hi
 have Hi4 : Hid (¬ (4 : Int) ≤ (i : Int)) := hid (by omega)
 have HGv := hid gv
 have Hcp := hid hcp
 have Hkk := hid t.kk
 have HLe := hid (lent_ok gv)
 obtain ⟨n, Hn'⟩ : ∃ n, Hid (n = sl.n) := ⟨_, hid rfl⟩
 have Hn : Hid (sl.n = n) := hid Hn'.out.symm
 have HnN : Hid (n = bs.length) := hid (by rw [← Hn.out]; exact gv.len.symm)
 have Hll := hid hl
 have Hr := hid hr
 rw [Hn.out] at HLe ⊢
 clear t hi gv hcp hl hr
 go_enter Tryz.func24, Tryz.ntmps24
 go_upto_region 2 with (
  go_at_call 35
  refine HLe.out.mono ?_
  rintro _ w2 ⟨s2, rfl, b2⟩
  have HS2 := hid b2
  clear b2)
 have HA02 : Hid (Apart [] w w2) := hid HS2.out.nw.ap
 have Hs2n : Hid (s2.n = n + 2) := hid (by rw [HS2.out.len, List.length_append, HnN.out]; rfl)
 have Hs2c : Hid (n ≤ s2.c) := hid (by have h1 := HS2.out.nw.cap; have h2 := Hs2n.out; omega)
 have HTl2 := hid (Nat.lt_of_lt_of_le (lt_of_heap HT.out.blk) HA02.out.size)
 have HTk2 := hid (HT.out.kept0 HA02.out).k0
 obtain ⟨s3, Hs3⟩ : ∃ z : Sl, Hid (z = s2.preB n) := ⟨_, hid rfl⟩
 have HRdy : Hid (∀ W, Apart [] w2 W → Rdy k W s3 bs) := hid (fun W aW => by
  have h1 := ((Rd.own HS2.out.nw.own).kept0 aW : Rd W s2.p (byts (bs ++ [7, 8])))
  have h2 := h1.preB n
  rw [HnN.out, List.take_left, ← HnN.out] at h2
  rw [Hs3.out]
  exact ⟨h2, HnN.out.symm, Sl.preB_ok HS2.out.nw.ok (by have := Hs2n.out; omega), Hs2c.out, HGv.out.u8, Hll.out⟩)
 have HP : Hid (∀ W, Apart [] w2 W → Calls Tryz.prog 45 #[.int .i64 (k : Int), .slice s3.p s3.n s3.c] W fun x w' => x = .returned (.tuple #[.pointer none, .int .i64 190]) ∧ Apart [] W w') := hid (fun W aW => Read_bad k Hkk.out.1 Hkk.out.2 (HRdy.out W aW) Hr.out)
 refine wp_region_held_drew (S := fun W => Apart [] w2 W) (by kernel_rfl) (Apart.refl [] w2).drew fun hHeld => ?_
 generalize w2.drew = wd at *
 refine zt 0 15 ?_
 refine zt 1 16 ?_
 refine zt 2 17 ?_
 refine zu 3 18 rfl (fun W hSW => by have z : W.cell? ⟨T, 0, none⟩ = some (.int .i64 (k : Nat)) := (hSW.cell HTl2.out (by simp)).trans HTk2.out; go_simp <;> rfl) ?_
 simp only [zA,zB,zC,zD,zF]
 refine zt 4 19 ?_
 refine zt 5 20 ?_
 refine zt 6 21 ?_
 simp only [zA,zB,zC,zD,zF]
 refine tk 7 22 (.slice s3.p s3.n s3.c) rfl ?_ ?_
 ·intro W hSW; rw [Hs3.out]; exact ex_preB s2 n _ _ rfl rfl rfl Hs2c.out
 simp only [zA,zB,zC,zD,zF]
 refine zQ 8 fun KK hKK => ?_
 go_simp
 refine (HP.out wd hHeld).mono ?_
 rintro _ wa ⟨rfl, aX⟩
 have hHx := hHeld.trans aX
 try dsimp only
 refine hKK.out _ _ hHx (fun hHeld => ?_)
 clear hKK KK
 try simp only [zA,zB,zC,zD,zF]
 refine zt 9 14 ?_
 refine zt 10 24 ?_
 refine zt 11 25 ?_
 refine zt 12 8 ?_
 refine zt 13 9 ?_
 simp only [zA,zB,zC,zD,zF]
 refine wpAnyH_done (by kernel_rfl) ?_ _
 have HA3 := hid hHeld
 clear hHeld aX
 generalize wa = w3 at *
 have HA03 : Hid (Apart [] w w3) := hid (HA02.out.trans HA3.out)
 have HQ : Hid (Calls Tryz.prog 46 #[.int .i64 (k : Int), .slice sl.p n sl.c] w3 fun x w' => x = .returned (.tuple #[.pointer none, .int .i64 190]) ∧ Apart [] w3 w') := hid (by
  have h0 := dRead_any (w := w3) Hkk.out.1 Hkk.out.2 (HGv.out.kept0 HA03.out) Hcp.out Hll.out
  rw [Hn.out] at h0
  refine h0.mono ?_
  rintro x w' (⟨h1, -, -⟩ | ⟨-, h2, h3⟩)
  ·rw [Hr.out] at h1; cases h1
  ·exact ⟨h2, h3⟩)
 have zk := (HT.out.kept0 HA03.out).k0
 go_upto_region 4 with (
  go_at_call 46
  refine HQ.out.mono ?_
  rintro _ w4 ⟨rfl, a4⟩
  have HA4 := hid a4
  clear a4)
 clear zk
 have HA04 : Hid (Apart [] w w4) := hid (HA03.out.trans HA4.out)
 have HS4 : Hid (Bf w w4 s2 (bs ++ [7, 8])) := hid ((HS2.out.kept' HA3.out).kept' HA4.out)
 have HG4 := hid (HGv.out.kept0 HA04.out)
 have HSn : Hid (∀ P, s2.v.ownBlock = some P → w.heap.size ≤ P) := hid HS4.out.nw.new
 have HBk0 := back_ok HS4.out HG4.out
 rw [Hn.out] at HBk0
 have HBk := hid HBk0
 clear HBk0
 go_wp2_with (
  go_at_call 41
  refine HBk.out.mono ?_
  rintro _ w5 ⟨rfl, a5⟩
  have HA5 := hid a5
  clear a5)
 go_ret
 have hf : Apart [] w w5 := HA04.out.trans' HA5.out (fun y hy => .inr (HSn.out y (by simpa using hy)))
 exact ⟨rfl, p, r, v, ts, H, L, sH, sL, h, HT.out.kept0 hf, by omega, by omega, fun x hx => .inl hx, fun x hx => .inl hx⟩
theorem reads_ok' (t : Tb wB w T k p r v ts H L sH sL h) {i : Nat} (hi : i < 4) {sl : Sl} {bs : List Nat} (gv : Gv w sl bs) (hcp : sl.n ≤ sl.c) (hl : bs.length ≤ 64) (hr : rdOk k bs = true) : Calls Tryz.prog 24 #[.pointer (some ⟨T, 0, none⟩), .int .i64 (i : Int), .slice sl.p sl.n sl.c] w fun x w' => StP wB T k H L x w' := by
 have HT := hid t
 have Hi := hid hi
 have Hi4 : Hid (¬ (4 : Int) ≤ (i : Int)) := hid (by omega)
 have HGv := hid gv
 have Hcp := hid hcp
 have Hkk := hid t.kk
 have HLe := hid (lent_ok gv)
 obtain ⟨n, Hn'⟩ : ∃ n, Hid (n = sl.n) := ⟨_, hid rfl⟩
 have Hn : Hid (sl.n = n) := hid Hn'.out.symm
 have HnN : Hid (n = bs.length) := hid (by rw [← Hn.out]; exact gv.len.symm)
 have Hll := hid hl
 have Hr := hid hr
 rw [Hn.out] at HLe ⊢
 clear t hi gv hcp hl hr
 go_enter Tryz.func24, Tryz.ntmps24
 go_upto_region 2 with (
  go_at_call 35
  refine HLe.out.mono ?_
  rintro _ w2 ⟨s2, rfl, b2⟩
  have HS2 := hid b2
  clear b2)
 have HA02 : Hid (Apart [] w w2) := hid HS2.out.nw.ap
 have Hs2n : Hid (s2.n = n + 2) := hid (by rw [HS2.out.len, List.length_append, HnN.out]; rfl)
 have Hs2c : Hid (n ≤ s2.c) := hid (by have h1 := HS2.out.nw.cap; have h2 := Hs2n.out; omega)
 have HTl2 := hid (Nat.lt_of_lt_of_le (lt_of_heap HT.out.blk) HA02.out.size)
 have HTk2 := hid (HT.out.kept0 HA02.out).k0
 obtain ⟨s3, Hs3⟩ : ∃ z : Sl, Hid (z = s2.preB n) := ⟨_, hid rfl⟩
 have HRdy : Hid (∀ W, Apart [] w2 W → Rdy k W s3 bs) := hid (fun W aW => by
  have h1 := ((Rd.own HS2.out.nw.own).kept0 aW : Rd W s2.p (byts (bs ++ [7, 8])))
  have h2 := h1.preB n
  rw [HnN.out, List.take_left, ← HnN.out] at h2
  rw [Hs3.out]
  exact ⟨h2, HnN.out.symm, Sl.preB_ok HS2.out.nw.ok (by have := Hs2n.out; omega), Hs2c.out, HGv.out.u8, Hll.out⟩)
 have HP : Hid (∀ W, Apart [] w2 W → Calls Tryz.prog 45 #[.int .i64 (k : Int), .slice s3.p s3.n s3.c] W fun x w' => ∃ V, x = .returned (.tuple #[.pointer (some ⟨V, 0, none⟩), .int .i64 0]) ∧ W.heap.size ≤ V ∧ Ho w' V (readV k bs) ∧ Apart [] W w') := hid (fun W aW => Read_ok k Hkk.out.1 Hkk.out.2 (HRdy.out W aW) Hr.out)
 refine wp_region_held_drew (S := fun W => Apart [] w2 W) (by kernel_rfl) (Apart.refl [] w2).drew fun hHeld => ?_
 generalize w2.drew = wd at *
 refine zt 0 15 ?_
 refine zt 1 16 ?_
 refine zt 2 17 ?_
 refine zu 3 18 rfl (fun W hSW => by have z : W.cell? ⟨T, 0, none⟩ = some (.int .i64 (k : Nat)) := (hSW.cell HTl2.out (by simp)).trans HTk2.out; go_simp <;> rfl) ?_
 simp only [zA,zB,zC,zD,zF]
 refine zt 4 19 ?_
 refine zt 5 20 ?_
 refine zt 6 21 ?_
 simp only [zA,zB,zC,zD,zF]
 refine tk 7 22 (.slice s3.p s3.n s3.c) rfl ?_ ?_
 ·intro W hSW; rw [Hs3.out]; exact ex_preB s2 n _ _ rfl rfl rfl Hs2c.out
 simp only [zA,zB,zC,zD,zF]
 refine zQ 8 fun KK hKK => ?_
 go_simp
 have hHd0 := hHeld
 refine (HP.out wd hHeld).mono ?_
 rintro _ wa ⟨V, rfl, hV, hO, aX⟩
 have hHx := hHeld.trans aX
 try dsimp only
 refine hKK.out _ _ hHx (fun hHeld => ?_)
 clear hKK KK
 try simp only [zA,zB,zC,zD,zF]
 refine zt 9 14 ?_
 refine zt 10 24 ?_
 refine zt 11 25 ?_
 refine zt 12 8 ?_
 refine zt 13 9 ?_
 simp only [zA,zB,zC,zD,zF]
 refine wpAnyH_done (by kernel_rfl) ?_ _
 have HA3 := hid hHeld
 have HVn : Hid (w2.heap.size ≤ V) := hid (Nat.le_trans hHd0.size hV)
 have HVo := hid hO
 clear hHeld hV hO aX hHd0
 generalize wa = w3 at *
 have HA03 : Hid (Apart [] w w3) := hid (HA02.out.trans HA3.out)
 have HQ : Hid (Calls Tryz.prog 46 #[.int .i64 (k : Int), .slice sl.p n sl.c] w3 fun x w' => ∃ O, x = .returned (.tuple #[.pointer (some ⟨O, 0, none⟩), .int .i64 0]) ∧ Hid (w3.heap.size ≤ O ∧ ∃ s' ts', Dk w' O (rvO (readV k bs) ts') s' ∧ Rl (readV k bs) ts') ∧ Apart [] w3 w') := hid (by
  have h0 := dRead_any (w := w3) Hkk.out.1 Hkk.out.2 (HGv.out.kept0 HA03.out) Hcp.out Hll.out
  rw [Hn.out] at h0
  refine h0.mono ?_
  rintro x w' (⟨-, ⟨O, s', ts', h1, h2, h3, h4⟩, h5⟩ | ⟨h1, -, -⟩)
  ·exact ⟨O, h1, hid ⟨h2, s', ts', h3, h4⟩, h5⟩
  ·rw [Hr.out] at h1; cases h1)
 have zk := (HT.out.kept0 HA03.out).k0
 go_upto_region 4 with (
  go_at_call 46
  refine HQ.out.mono ?_
  rintro _ w4 ⟨O, rfl, hO4, a4⟩
  have HA4 := hid a4
  have HO4 := hid hO4.out
  clear a4 hO4)
 clear zk
 have HA04 : Hid (Apart [] w w4) := hid (HA03.out.trans HA4.out)
 have HS4 : Hid (Bf w w4 s2 (bs ++ [7, 8])) := hid ((HS2.out.kept' HA3.out).kept' HA4.out)
 have HG4 := hid (HGv.out.kept0 HA04.out)
 have HSn : Hid (∀ P, s2.v.ownBlock = some P → w.heap.size ≤ P) := hid HS4.out.nw.new
 have HBk0 := back_ok HS4.out HG4.out
 rw [Hn.out] at HBk0
 have HBk := hid HBk0
 clear HBk0
 have HTb4 : Hid (w4.heap[T]? = some (.cells (tbC k p r sH sL).toArray 49 (0, 0))) := hid (keep0 HA04.out HT.out.blk)
 have HVo4 := hid (HVo.out.kept0 HA4.out)
 have HX5 : Hid (∀ ty : Nat, ty ≠ 5 → ∀ q ∈ s2.v.ownBlock.toList, ∀ cur m, w4.heap[q]? ≠ some (.cells cur ty m)) := hid (fun ty hty q hq cur m e => by
  obtain ⟨c, e2⟩ := own_typ HS4.out.nw.own (k := q) (by simpa using hq)
  rw [e] at e2
  simp only [Option.some.injEq, Obj.cells.injEq] at e2
  exact hty e2.2.1)
 have hi4 := Hi4.out
 go_upto_region 7 with (
  go_at_call 41
  refine HBk.out.mono ?_
  rintro _ w5 ⟨rfl, a5⟩
  have HA5 := hid a5
  have HTb5 : Hid (w5.heap[T]? = some (.cells (tbC k p r sH sL).toArray 49 (0, 0))) := hid ((a5.block T (lt_of_heap HTb4.out) (fun hm => HX5.out 49 (by decide) T hm _ _ HTb4.out)).trans HTb4.out)
  have z1 : w5.cell? ⟨T, 1 + i, none⟩ = some (.pointer (some ⟨p i, 0, none⟩)) := dcell HTb5.out (tb_p _ _ _ _ _ Hi.out)
  have f1 := frozen_of_row _ _ (1 + i) _ _ HTb5.out
  clear a5)
 obtain ⟨sO, tO, hdO, hrO⟩ := HO4.out.2
 have HDk := hid hdO
 have HRl := hid hrO
 have HOn := hid HO4.out.1
 clear hdO hrO
 have HVo5 : Hid (Ho w5 V (readV k bs)) := hid (HVo4.out.keptX HA5.out (fun hm => by
  obtain ⟨b0, hb0⟩ := HVo4.out.bd
  exact HX5.out 71 (by decide) V hm _ _ hb0) (HX5.out _ (by decide)))
 have HDk5 : Hid (Dk w5 O (rvO (readV k bs) tO) sO) := hid (HDk.out.other HA5.out (fun hm => HX5.out 63 (by decide) O hm _ _ HDk.out.dv.blk) (HX5.out _ (by decide)))
 go_upto_region 8 with fail
 clear z1 f1
 have HTb6 : Hid ((w5.setCell ⟨T, 1 + i, none⟩ (.pointer (some ⟨V, 0, none⟩))).heap[T]? = some (.cells (tbC k (upd p i V) r sH sL).toArray 49 (0, 0))) := hid (by
  rw [heap_setCell_same w5 T (1 + i) _ 49 _ HTb5.out, List.setIfInBounds_toArray]
  have := tbC_p k p r sH sL Hi.out V
  unfold ptV at this
  rw [this])
 have HA6 : Hid (Apart [T] w5 (w5.setCell ⟨T, 1 + i, none⟩ (.pointer (some ⟨V, 0, none⟩)))) := hid ((Apart.refl [T] w5).setCell (.inl (by simp)) _)
 generalize w5.setCell ⟨T, 1 + i, none⟩ (.pointer (some ⟨V, 0, none⟩)) = w6 at *
 have z5 : w6.cell? ⟨T, 5 + i, none⟩ = some (.pointer (some ⟨r i, 0, none⟩)) := dcell HTb6.out (tb_r _ _ _ _ _ Hi.out)
 have f5 := frozen_of_row _ _ (5 + i) _ _ HTb6.out
 have HTb7 : Hid ((w6.setCell ⟨T, 5 + i, none⟩ (.pointer (some ⟨O, 0, none⟩))).heap[T]? = some (.cells (tbC k (upd p i V) (upd r i O) sH sL).toArray 49 (0, 0))) := hid (by
  rw [heap_setCell_same w6 T (5 + i) _ 49 _ HTb6.out, List.setIfInBounds_toArray]
  have := tbC_r k (upd p i V) r sH sL Hi.out O
  unfold ptV at this
  rw [this])
 have HA7 : Hid (Apart [T] w5 (w6.setCell ⟨T, 5 + i, none⟩ (.pointer (some ⟨O, 0, none⟩)))) := hid (HA6.out.setCell (.inl (by simp)) _)
 have HXT : Hid (∀ ty : Nat, ty ≠ 49 → ∀ q ∈ [T], ∀ cur m, w5.heap[q]? ≠ some (.cells cur ty m)) := hid (fun ty hty q hq cur m e => by
  rw [List.mem_singleton.1 hq, HTb5.out] at e
  simp only [Option.some.injEq, Obj.cells.injEq] at e
  exact hty e.2.1.symm)
 have HFin : Hid (StP wB T k H L (.returned (.bool true)) (w6.setCell ⟨T, 5 + i, none⟩ (.pointer (some ⟨O, 0, none⟩)))) := hid (by
  have hv7 := HVo5.out.keptX HA7.out (fun hm => by
   obtain ⟨b0, hb0⟩ := HVo5.out.bd
   exact HXT.out 71 (by decide) V hm _ _ hb0) (HXT.out _ (by decide))
  have hd7 := HDk5.out.other HA7.out (fun hm => HXT.out 63 (by decide) O hm _ _ HDk5.out.dv.blk) (HXT.out _ (by decide))
  have ha : Apart [p i, r i, T] w (w6.setCell ⟨T, 5 + i, none⟩ (.pointer (some ⟨O, 0, none⟩))) := ((HA04.out.trans' HA5.out (fun y hy => .inr (HSn.out y (by simpa using hy)))).mono (by simp)).trans (HA7.out.mono (by simp))
  refine ⟨rfl, _, _, _, _, H, L, sH, sL, h, HT.out.next Hi.out (p' := V) (r' := O) ha HTb7.out (.inr (Nat.le_trans HA02.out.size HVn.out)) (.inr (Nat.le_trans HA03.out.size HOn.out)) hv7 hd7 (readV_iv Hkk.out.1 Hkk.out.2 HGv.out.u8 Hll.out Hr.out) HRl.out (readV_kd Hkk.out.1 Hkk.out.2 bs), by omega, by omega, fun x hx => .inl hx, fun x hx => .inl hx⟩)
 go_wp2_with fail
 go_ret
 exact HFin.out
theorem reads_ok (t : Tb wB w T k p r v ts H L sH sL h) {i : Nat} (hi : i < 4) {sl : Sl} {bs : List Nat} (gv : Gv w sl bs) (hcp : sl.n ≤ sl.c) : Calls Tryz.prog 24 #[.pointer (some ⟨T, 0, none⟩), .int .i64 (i : Int), .slice sl.p sl.n sl.c] w fun x w' => StP wB T k H L x w' := by
 by_cases hl : bs.length ≤ 64
 ·cases hr : rdOk k bs
  ·exact reads_bad t hi gv hcp hl hr
  ·exact reads_ok' t hi gv hcp hl hr
 ·exact reads_long t hi gv hcp hl
variable {wB w w' w2 : World} {T k : Nat} {p r : Nat → Nat} {v : Nat → Vl} {ts : Nat → List Tg} {H L : List Sl} {sH sL : Sl} {h : Nat → Prop}
theorem rbytes_few {w : World} {O : Nat} {v : Vl} {ts : List Tg} {s : Sl} (h : Dk w O (rvO v ts) s) (hr : Rl v ts) (iv : Iv v) (hl : (formV v).length ≤ 64) : Calls Tryz.prog 23 #[.pointer (some ⟨O, 0, none⟩)] w fun x w' => ∃ s' : Sl, x = .returned (.tuple #[.slice s'.p s'.n s'.c, .int .i64 0]) ∧ Bf w w' s' (formV v) := by
 have HF := hid (dform_any h hr iv)
 have Hl := hid hl
 clear h hr iv hl
 go_enter Tryz.func23, Tryz.ntmps23
 go_upto_region 2 with (
  go_at_call 44
  refine HF.out.mono ?_
  rintro _ w3 ⟨s3, rfl, b3⟩
  have HB := hid b3
  clear b3)
 have hn : ¬ ((s3.n : Nat) : Int) > 64 := by have h1 := HB.out.len; have h2 := Hl.out; omega
 go_wp2_with fail
 go_ret2
 exact ⟨s3, rfl, HB.out⟩
theorem rbytes_wide {w : World} {O : Nat} {v : Vl} {ts : List Tg} {s : Sl} (h : Dk w O (rvO v ts) s) (hr : Rl v ts) (iv : Iv v) (hl : ¬ (formV v).length ≤ 64) : Calls Tryz.prog 23 #[.pointer (some ⟨O, 0, none⟩)] w fun x w' => x = .returned (.tuple #[.slice none 0 0, .int .i64 71]) ∧ Apart [] w w' := by
 have HF := hid (dform_any h hr iv)
 have Hl := hid hl
 clear h hr iv hl
 go_enter Tryz.func23, Tryz.ntmps23
 go_upto_region 2 with (
  go_at_call 44
  refine HF.out.mono ?_
  rintro _ w3 ⟨s3, rfl, b3⟩
  have HB := hid b3
  clear b3)
 have hn : ((s3.n : Nat) : Int) > 64 := by have h1 := HB.out.len; have h2 := Hl.out; omega
 go_wp2_with fail
 go_ret2
 exact ⟨rfl, HB.out.nw.ap⟩
theorem step9 (t : Tb wB w T k p r v ts H L sH sL h) {I J a b : Int} {on : Bool} {sl : Sl} {bs : List Nat} (gv : Gv w sl bs) (hcp : sl.n ≤ sl.c) : Calls Tryz.prog 11 #[.pointer (some ⟨T, 0, none⟩), .agg (opC 9 I J a b on sl)] w fun x w' => StP wB T k H L x w' := by
 obtain ⟨i, hi, hmask⟩ := mask3 I
 obtain ⟨j, hj, hmask2⟩ := mask3 J
 have HT := hid t
 have Hi := hid hi
 have Hj := hid hj
 have Hi4 : Hid (¬ (4 : Int) ≤ (i : Int)) := hid (by omega)
 have HGv := hid gv
 have Hcp := hid hcp
 clear gv hcp
 obtain ⟨A, HAe⟩ : ∃ A, Hid (A = w.heap.size) := ⟨_, hid rfl⟩
 obtain ⟨w1, Hw1⟩ : ∃ W, Hid (W = w.alloc (.cells (opC 9 I J a b on sl) 31)) := ⟨_, hid rfl⟩
 have HA1 : Hid (Apart [] w w1) := hid (zM Hw1.out)
 have HBA : Hid (w1.heap[A]? = some (.cells (opC 9 I J a b on sl) 31 (0, 0))) := hid (zN HAe.out Hw1.out)
 have HT1 := hid (HT.out.kept0 HA1.out)
 have za0 : w1.cell? ⟨A, 0, none⟩ = some (.int .i64 9) := zK HBA.out
 have za1 : w1.cell? ⟨A, 1, none⟩ = some (.int .i64 I) := zK HBA.out
 have za2 : w1.cell? ⟨A, 2, none⟩ = some (.int .i64 J) := zK HBA.out
 have za6 : w1.cell? ⟨A, 6, none⟩ = some (.slice sl.p sl.n sl.c) := zK HBA.out
 clear t hj hi
 go_enter Tryz.func11, Tryz.ntmps11
 go_upto_region 1 with fail
 rw [← HAe.out, ← Hw1.out]
 clear Hw1 HAe
 have HD := hid (reads_ok HT1.out Hi.out (HGv.out.kept0 HA1.out) Hcp.out)
 go_wp2_with (
  go_at_call 24
  refine HD.out.mono ?_
  rintro _ w2 ⟨rfl, hst⟩
  have HS := hid hst
  clear hst)
 go_ret
 exact ⟨rfl, HS.out⟩
theorem step7 (t : Tb wB w T k p r v ts H L sH sL h) {I J a b : Int} {on : Bool} {sl : Sl}  : Calls Tryz.prog 11 #[.pointer (some ⟨T, 0, none⟩), .agg (opC 7 I J a b on sl)] w fun x w' => StP wB T k H L x w' := by
 obtain ⟨i, hi, hmask⟩ := mask3 I
 obtain ⟨j, hj, hmask2⟩ := mask3 J
 have HT := hid t
 have Hi := hid hi
 have Hj := hid hj
 have Hi4 : Hid (¬ (4 : Int) ≤ (i : Int)) := hid (by omega)
 obtain ⟨A, HAe⟩ : ∃ A, Hid (A = w.heap.size) := ⟨_, hid rfl⟩
 obtain ⟨w1, Hw1⟩ : ∃ W, Hid (W = w.alloc (.cells (opC 7 I J a b on sl) 31)) := ⟨_, hid rfl⟩
 have HA1 : Hid (Apart [] w w1) := hid (zM Hw1.out)
 have HBA : Hid (w1.heap[A]? = some (.cells (opC 7 I J a b on sl) 31 (0, 0))) := hid (zN HAe.out Hw1.out)
 have HT1 := hid (HT.out.kept0 HA1.out)
 have za0 : w1.cell? ⟨A, 0, none⟩ = some (.int .i64 7) := zK HBA.out
 have za1 : w1.cell? ⟨A, 1, none⟩ = some (.int .i64 I) := zK HBA.out
 have za2 : w1.cell? ⟨A, 2, none⟩ = some (.int .i64 J) := zK HBA.out
 clear t hj hi
 go_enter Tryz.func11, Tryz.ntmps11
 go_upto_region 1 with fail
 rw [← HAe.out, ← Hw1.out]
 clear Hw1 HAe
 obtain ⟨si, hsi⟩ := HT1.out.rv i Hi.out
 have HDi := hid hsi
 clear hsi
 go_upto_region 11 with fail
 have zr := HT1.out.cr Hi.out
 have hi4 := Hi4.out
 by_cases hf : (formV (v i)).length ≤ 64
 ·have Hf := hid hf
  clear hf
  have HB := hid (rbytes_few HDi.out (HT1.out.rl i Hi.out) (HT1.out.iv i Hi.out) Hf.out)
  have Hu8 : Hid (U8 (formV (v i))) := hid (formV_u8 _)
  have HJ : Hid (∀ W (s2 : Sl), Bf w1 W s2 (formV (v i)) → Calls Tryz.prog 24 #[.pointer (some ⟨T, 0, none⟩), .int .i64 (j : Int), .slice s2.p s2.n s2.c] W fun x w' => StP wB T k H L x w') := hid (fun W s2 b2 => reads_ok (HT1.out.kept0 b2.nw.ap) Hj.out ⟨b2.nw.rd, b2.len.symm, b2.nw.ok, Hu8.out, by have := Hf.out; omega⟩ b2.nw.cap)
  go_upto_region 12 with (
   go_at_call 23
   refine HB.out.mono ?_
   rintro _ w2 ⟨s2, rfl, b2⟩
   have HJ2 := hid (HJ.out w2 s2 b2)
   clear b2)
  go_wp2_with (
   go_at_call 24
   refine HJ2.out.mono ?_
   rintro _ w3 ⟨rfl, hst⟩
   have HS := hid hst
   clear hst)
  go_ret
  exact ⟨rfl, HS.out⟩
 ·have Hf := hid hf
  clear hf
  have HB := hid (rbytes_wide HDi.out (HT1.out.rl i Hi.out) (HT1.out.iv i Hi.out) Hf.out)
  go_upto_region 12 with (
   go_at_call 23
   refine HB.out.mono ?_
   rintro _ w2 ⟨rfl, a2⟩
   have HA2 := hid a2
   clear a2)
  go_wp2_with fail
  go_ret
  exact ⟨rfl, p, r, v, ts, H, L, sH, sL, h, HT1.out.kept0 HA2.out, by omega, by omega, fun x hx => .inl hx, fun x hx => .inl hx⟩
end Go.Proofs.YtdbeeikjngnnnaaGreat.ty
