import Derived.Test.YtdbeeikjngnnnaaGreatC25
import Derived.Test.YtdbeeikjngnnnaaGreatC26
namespace Go.Proofs.YtdbeeikjngnnnaaGreat.ty
open Go.ChangeShapes Go.WideShapes Go.ChangeAt Go.RowKit
set_option linter.unusedVariables false
set_option linter.unusedSimpArgs false
set_option maxRecDepth 100000
set_option maxHeartbeats 8000000
theorem rcell60 {w : World} {X : Nat} {u : List Int} (h : w.heap[X]? = some (.cells (rv u).toArray 60 (0, 0))) (hu : u.length = 8) {i : Nat} (hi : i < 8) : w.cell? ⟨X, i, none⟩ = some (.int .i64 (u.getD i 0)) := rcell h hu hi
theorem row_put {w : World} {X i : Nat} {l : List Int} (h : w.heap[X]? = some (.cells (rv (pad8 l)).toArray 60 (0, 0))) (hl : l.length = i) (hi : i < 8) (y : Int) : (w.setCell ⟨X, i, none⟩ (.int .i64 y)).heap[X]? = some (.cells (rv (pad8 (l ++ [y]))).toArray 60 (0, 0)) := by
 rw [heap_setCell_same w X i _ 60 _ h, ← pad8_set (by rw [hl]; exact hi), hl, ← rv_set]
 simp
theorem drd_row1 {wB w : World} {R : Nat} {s : Sl} {bs : List Nat} {a : Nat} {bad : Bool} (h : Dr wB w R s bs a bad) {size : Nat} (hs : size ≤ 3) : Calls Tryz.prog 63 #[.pointer (some ⟨R, 0, none⟩), .int .i64 (size : Int), .bool false] w fun x w' => x = .returned (.tuple #[.agg (rv (rowDD bs a bad size false).u).toArray, .agg (rv (rowDD bs a bad size false).d).toArray]) ∧ Dr wB w' R s bs (rowDD bs a bad size false).at_ (rowDD bs a bad size false).bad ∧ Apart [R] w w' := by
 have HD0 := hid h
 have Hs := hid hs
 have HRl := hid (lt_of_heap h.blk)
 have HWB := hid h.ap.size
 have HU := hid h.u8
 clear h hs
 obtain ⟨g, Hg⟩ : ∃ g, Hid (g = rowDD bs a bad size false) := ⟨_, hid rfl⟩
 rw [← Hg.out]
 obtain ⟨mk, Hmk⟩ : ∃ m, Hid (m = dnum bs a 1) := ⟨_, hid rfl⟩
 have hmk : mk < 256 := by rw [Hmk.out]; exact dnum_lt HU.out a 1
 have HA := hid (Apart.refl [] w)
 go_enter Tryz.func63, Tryz.ntmps63
 go_upto_region 2 with fail
 obtain ⟨Y, HXY⟩ : ∃ X, Hid (X = w.heap.size) := ⟨_, rfl⟩
 obtain ⟨w1, hw1⟩ : ∃ W, W = w.alloc (.cells (rv zr).toArray 60) := ⟨_, rfl⟩
 have HS1 : Hid (Apart [] w w1) := hid (zM hw1)
 have HBY : Hid (w1.heap[Y]? = some (.cells (rv zr).toArray 60 (0, 0))) := hid (zN HXY.out hw1)
 obtain ⟨Z, HXZ⟩ : ∃ X, Hid (X = w1.heap.size) := ⟨_, rfl⟩
 obtain ⟨w2, hw2⟩ : ∃ W, W = w1.alloc (.cells (rv zr).toArray 60) := ⟨_, rfl⟩
 have HS2 : Hid (Apart [] w1 w2) := hid (zM hw2)
 have HBZ : Hid (w2.heap[Z]? = some (.cells (rv zr).toArray 60 (0, 0))) := hid (zN HXZ.out hw2)
 obtain ⟨X, HXX⟩ : ∃ X, Hid (X = w2.heap.size) := ⟨_, rfl⟩
 obtain ⟨w3, hw3⟩ : ∃ W, W = w2.alloc (.cells (rv zr).toArray 60) := ⟨_, rfl⟩
 have HS3 : Hid (Apart [] w2 w3) := hid (zM hw3)
 have HBX : Hid (w3.heap[X]? = some (.cells (rv (pad8 [])).toArray 60 (0, 0))) := hid (zN HXX.out hw3)
 obtain ⟨T, HXT⟩ : ∃ X, Hid (X = w3.heap.size) := ⟨_, rfl⟩
 obtain ⟨w4, hw4⟩ : ∃ W, W = w3.alloc (.cells (rv zr).toArray 60) := ⟨_, rfl⟩
 have HS4 : Hid (Apart [] w3 w4) := hid (zM hw4)
 have HBT : Hid (w4.heap[T]? = some (.cells (rv (pad8 [])).toArray 60 (0, 0))) := hid (zN HXT.out hw4)
 have heZ : Y + 1 = Z := by rw [HXZ.out, hw1, HXY.out]; exact (Array.size_push _).symm
 have heX : Z + 1 = X := by rw [HXX.out, hw2, HXZ.out]; exact (Array.size_push _).symm
 have heT : X + 1 = T := by rw [HXT.out, hw3, HXX.out]; exact (Array.size_push _).symm
 have HN : Hid (R < Y ∧ Z = Y + 1 ∧ X = Y + 2 ∧ T = Y + 3 ∧ w.heap.size ≤ Y) := hid (by have := HXY.out; have := HRl.out; omega)
 replace HA := hid (((HS1.out.trans HS2.out).trans HS3.out).trans HS4.out)
 replace HBY := hid (keep0 ((HS2.out.trans HS3.out).trans HS4.out) HBY.out)
 replace HBZ := hid (keep0 (HS3.out.trans HS4.out) HBZ.out)
 replace HBX := hid (keep0 HS4.out HBX.out)
 change Code.wp _ _ _ _ ((((w.alloc (.cells (rv zr).toArray 60)).alloc (.cells (rv zr).toArray 60)).alloc (.cells (rv zr).toArray 60)).alloc (.cells (rv zr).toArray 60))
 rw [← hw1, ← HXY.out, ← hw2, heZ, ← hw3, heX, ← hw4, heT]
 clear hw1 hw2 hw3 hw4 HXY HXZ HXX HXT heZ heX heT HS1 HS2 HS3 HS4
 have HD1 := hid (HD0.out.kept0 HA.out)
 have HC := hid (dnumber_ok HD1.out (k := 1) (by omega))
 rw [← Hmk.out] at HC
 go_upto_region 4 with (go_at_call 62; refine HC.out.mono ?_; rintro _ w5 ⟨rfl, d5, a5⟩; have HD5 := hid d5; have HA5 := hid a5; clear d5 a5)
 replace HBY := hid (keepB HA5.out HBY.out (by have := HN.out; omega))
 replace HBZ := hid (keepB HA5.out HBZ.out (by have := HN.out; omega))
 replace HBX := hid (keepB HA5.out HBX.out (by have := HN.out; omega))
 replace HBT := hid (keepB HA5.out HBT.out (by have := HN.out; omega))
 have HAr := hid ((HA.out.mono (by simp)).trans HA5.out : Apart [R] w w5)
 obtain ⟨rs, Hrs⟩ : ∃ f : Nat → Rs, Hid (f = rwD bs mk size false (dat bs a 1) (bad || dbad bs a 1)) := ⟨_, hid rfl⟩
 have Hlen : Hid (∀ i, (rs i).u.length = i ∧ (rs i).d.length = i) := hid (fun i => by rw [Hrs.out]; exact rwD_len _ _ _ _ _ _ i)
 have Hst : Hid (∀ i, rs (i + 1) = rwS bs mk size false (rs i) i) := hid (fun i => by rw [Hrs.out]; rfl)
 have H00 : Hid (rs 0 = ⟨[], [], dat bs a 1, bad || dbad bs a 1⟩) := hid (by rw [Hrs.out]; rfl)
 clear HC HD1 HD0 HA HA5
 go_loopw [10, 11] (fun v10 v wt => ∃ i m : Nat, v = .int .i64 (i : Nat) ∧ v10 = .int .i64 (m : Nat) ∧ i ≤ 8 ∧ Hid (m = mk / 2 ^ i) ∧ Hid (Dr wB wt R s bs (rs i).at_ (rs i).bad) ∧ Hid (wt.heap[X]? = some (.cells (rv (pad8 (rs i).u)).toArray 60 (0, 0))) ∧ Hid (wt.heap[T]? = some (.cells (rv (pad8 (rs i).d)).toArray 60 (0, 0))) ∧ Hid (wt.heap[Y]? = some (.cells (rv zr).toArray 60 (0, 0))) ∧ Hid (wt.heap[Z]? = some (.cells (rv zr).toArray 60 (0, 0))) ∧ Hid (Apart [R] w wt)) (fun _ v _ => 8 - natV v)
 case atStart => exact ⟨0, mk, rfl, rfl, Nat.zero_le _, hid (by simp), by rw [H00.out]; exact HD5, by rw [H00.out]; exact HBX, by rw [H00.out]; exact HBT, HBY, HBZ, HAr⟩
 case round =>
  clear HD5 HBX HBT HBY HBZ HAr
  obtain ⟨i, m, rfl, rfl, hi, Hm, HD, HBX, HBT, HBY, HBZ, HA⟩ := hrel
  generalize wr = wt at *
  by_cases hlt : i < 8
  ·have hlti : ((i : Nat) : Int) < 8 := by omega
   have Hlt := hid hlt
   have hi4 : ¬ (8 : Int) ≤ ((i : Nat) : Int) := by omega
   have Hi8 := hid hi4
   have hm256 : m < 256 := by
    rw [Hm.out]
    exact Nat.lt_of_le_of_lt (Nat.div_le_self _ _) hmk
   have Hm2 : Hid (m / 2 = mk / 2 ^ (i + 1)) := hid (by rw [Hm.out, Nat.div_div_eq_div_mul, Nat.pow_succ])
   obtain ⟨l, Hl⟩ : ∃ l, Hid (l = (rs i).u) := ⟨_, hid rfl⟩
   obtain ⟨l2, Hl2⟩ : ∃ l, Hid (l = (rs i).d) := ⟨_, hid rfl⟩
   obtain ⟨q, Hq⟩ : ∃ l, Hid (l = (rs i).at_) := ⟨_, hid rfl⟩
   obtain ⟨b, Hb⟩ : ∃ l, Hid (l = (rs i).bad) := ⟨_, hid rfl⟩
   have Hll : Hid (l.length = i ∧ l2.length = i) := hid (by rw [Hl.out, Hl2.out]; exact Hlen.out i)
   rw [← Hl.out] at HBX
   rw [← Hl2.out] at HBT
   rw [← Hq.out, ← Hb.out] at HD
   have Hnx := hid (Hst.out i)
   obtain ⟨nx, Hnxe⟩ : ∃ x, Hid (x = rs (i + 1)) := ⟨_, hid rfl⟩
   rw [← Hnxe.out] at Hnx
   obtain ⟨t, Ht⟩ : ∃ t, Hid (t = m % 2) := ⟨_, hid rfl⟩
   have ht2 : t < 2 := by rw [Ht.out]; omega
   have hmod : ((m : Int) % 2) = (t : Int) := by rw [Ht.out]; omega
   have hdiv : ((m : Int) / 2) = ((m / 2 : Nat) : Int) := by omega
   have Hmod := hid hmod
   have Hdiv := hid hdiv
   have htm : Int.tmod (m : Int) 2 = (t : Int) := by rw [Int.tmod_eq_emod_of_nonneg (by omega)]; exact hmod
   have htd : Int.tdiv (m : Int) 2 = ((m / 2 : Nat) : Int) := by rw [Int.tdiv_eq_ediv_of_nonneg (by omega)]; exact hdiv
   clear hmod hdiv
   by_cases hb : t = 1
   ·have Hb1 : Hid (mk / 2 ^ i % 2 = 1) := hid (by rw [← Hm.out, ← Ht.out]; exact hb)
    subst hb
    obtain ⟨y, Hy⟩ : ∃ y, Hid (y = dnum bs q size) := ⟨_, hid rfl⟩
    have HC := hid (dnumber_ok HD.out Hs.out)
    rw [← Hy.out] at HC
    have htb : (((1 : Nat) : Int) == 1) = true := by simp
    go_upto_region 8 with (
     go_at_call 62
     refine HC.out.mono ?_
     rintro _ w6 ⟨rfl, d6, a6⟩
     have HD6 := hid d6
     have HA6 := hid a6
     have HBX6 := hid (keepB a6 HBX.out (by have := HN.out; omega))
     have HBT6 := hid (keepB a6 HBT.out (by have := HN.out; omega))
     have zx := rcell60 HBX6.out (by rw [pad8_len (by rw [Hll.out.1]; have := Hlt.out; omega)]) Hlt.out
     have fx := frozen_of_row _ _ i _ _ HBX6.out
     clear d6 a6)
    clear zx fx
    have HBX7 := hid (row_put HBX6.out Hll.out.1 Hlt.out (y : Int))
    have HSx : Hid (Apart [X] w6 (w6.setCell ⟨X, i, none⟩ (.int .i64 (y : Int)))) := hid ((Apart.refl [X] w6).setCell (.inl (by simp)) _)
    generalize w6.setCell ⟨X, i, none⟩ (.int .i64 (y : Int)) = w7 at *
    have HBT7 := hid (keepB HSx.out HBT6.out (by have := HN.out; omega))
    have HBY7 := hid (keepB HSx.out (keepB HA6.out HBY.out (by have := HN.out; omega)) (by have := HN.out; omega))
    have HBZ7 := hid (keepB HSx.out (keepB HA6.out HBZ.out (by have := HN.out; omega)) (by have := HN.out; omega))
    have HD7 := hid (HD6.out.kept HSx.out (by simp; have := HN.out; omega) (by intro x hx; simp at hx; rw [hx]; have := HN.out; have := HWB.out; omega))
    have HA7 : Hid (Apart [R] w w7) := hid ((HA.out.trans HA6.out).trans' HSx.out (by intro x hx; simp at hx; rw [hx]; exact .inr (by have := HN.out; omega)))
    have Hn2 : Hid (nx = ⟨l ++ [(y : Int)], l2 ++ [0], dat bs q size, b || dbad bs q size⟩) := hid (by
     rw [Hnx.out]
     unfold rwS
     rw [if_pos Hb1.out, if_neg Bool.false_ne_true, ← Hl.out, ← Hl2.out, ← Hq.out, ← Hb.out, ← Hy.out])
    rw [Hnxe.out] at Hn2
    go_wp2_with fail
    refine ⟨⟨i + 1, m / 2, by go_num, rfl, by omega, Hm2, ?_, ?_, ?_, HBY7, HBZ7, HA7⟩, by simp [natV]; omega⟩
    ·rw [Hn2.out]; exact HD7
    ·rw [Hn2.out]; exact HBX7
    ·rw [Hn2.out]
     show Hid (w7.heap[T]? = some (.cells (rv (pad8 (l2 ++ [0]))).toArray 60 (0, 0)))
     rw [pad8_zero (by rw [Hll.out.2]; exact Hlt.out)]
     exact HBT7
   ·have Hb0 : Hid (¬ mk / 2 ^ i % 2 = 1) := hid (by rw [← Hm.out, ← Ht.out]; exact hb)
    have h0 : t = 0 := by omega
    subst h0
    have Hn2 : Hid (nx = ⟨l ++ [0], l2 ++ [0], q, b⟩) := hid (by
     rw [Hnx.out]
     unfold rwS
     rw [if_neg Hb0.out, ← Hl.out, ← Hl2.out, ← Hq.out, ← Hb.out])
    rw [Hnxe.out] at Hn2
    have htb : (((0 : Nat) : Int) == 1) = false := by simp
    go_wp2_with fail
    refine ⟨⟨i + 1, m / 2, by go_num, rfl, by omega, Hm2, ?_, ?_, ?_, HBY, HBZ, HA⟩, by simp [natV]; omega⟩
    ·rw [Hn2.out]; exact HD
    ·rw [Hn2.out]
     show Hid (wt.heap[X]? = some (.cells (rv (pad8 (l ++ [0]))).toArray 60 (0, 0)))
     rw [pad8_zero (by rw [Hll.out.1]; exact Hlt.out)]
     exact HBX
    ·rw [Hn2.out]
     show Hid (wt.heap[T]? = some (.cells (rv (pad8 (l2 ++ [0]))).toArray 60 (0, 0)))
     rw [pad8_zero (by rw [Hll.out.2]; exact Hlt.out)]
     exact HBT
  ·have hlti : ¬ ((i : Nat) : Int) < 8 := by omega
   obtain rfl : i = 8 := by omega
   have Hg8 : Hid (rs 8 = g) := hid (by rw [Hrs.out, Hg.out, Hmk.out]; rfl)
   rw [Hg8.out] at HD HBX HBT
   have Hgl : Hid (g.u.length = 8 ∧ g.d.length = 8) := hid (by rw [← Hg8.out]; exact Hlen.out 8)
   rw [pad8_end Hgl.out.1] at HBX
   rw [pad8_end Hgl.out.2] at HBT
   go_upto_region 11 with fail
   have hAd : Apart [Y, Z] wt wt.drew := (Apart.refl [Y, Z] wt).drew
   have HOY : Hid (wt.drew.heap[Y]? = some (.cells (rv zr).toArray 60 (0, 0))) := HBY
   have HOZ : Hid (wt.drew.heap[Z]? = some (.cells (rv zr).toArray 60 (0, 0))) := HBZ
   have HNx : Hid (X ≠ Y ∧ X ≠ Z ∧ T ≠ Y ∧ T ≠ Z ∧ Z ≠ Y ∧ R ≠ Y ∧ R ≠ Z) := hid (by have := HN.out; omega)
   refine wp_region_held_drew (S := fun W => Apart [Y, Z] wt W) (by kernel_rfl) hAd (fun hHeld => ?_)
   generalize wt.drew = wd at *
   clear hAd
   refine tk 0 34 (.agg (rv g.u).toArray) rfl ?_ ?_
   ·intro W hSW; exact ex_load60 _ rfl _ _ _ rfl (rgR (keepYZ hSW HBX.out HNx.out.1 HNx.out.2.1)) (by rw [rv_len, Hgl.out.1])
   simp only [zA,zB,zC,zD,zF]
   refine tk 1 35 (.agg (rv g.d).toArray) rfl ?_ ?_
   ·intro W hSW; exact ex_load60 _ rfl _ _ _ rfl (rgR (keepYZ hSW HBT.out HNx.out.2.2.1 HNx.out.2.2.2.1)) (by rw [rv_len, Hgl.out.2])
   simp only [zA,zB,zC,zD,zF]
   refine zQ 2 fun KK hKK => ?_
   rw [if_pos (by rfl)]
   refine wp_store_row 60 _ _ rfl Y (rv g.u).toArray rfl rfl 60 _ HOY.out (by rw [size60]; simp [rv_len, Hgl.out.1]) (by simp [rv_len, Hgl.out.1]; rfl) (all_oneCell_toArray (rv_one _)) ?_
   have hHa := hHeld.trans ((apart_setRow wd Y (rv g.u).toArray).mono (by simp))
   replace HOZ := hid (keepB (apart_setRow wd Y (rv g.u).toArray) HOZ.out HNx.out.2.2.2.2.1)
   replace HOY := hid (setRow_heap _ _ _ (rv g.u).toArray _ _ HOY.out)
   generalize wd.setRow Y (rv g.u).toArray = wa at *
   try dsimp only
   refine hKK.out _ _ hHa (fun hHeld => ?_)
   clear hKK KK
   try simp only [zA,zB,zC,zD,zF]
   refine zQ 3 fun KK hKK => ?_
   rw [if_pos (by rfl)]
   refine wp_store_row 60 _ _ rfl Z (rv g.d).toArray rfl rfl 60 _ HOZ.out (by rw [size60]; simp [rv_len, Hgl.out.2]) (by simp [rv_len, Hgl.out.2]; rfl) (all_oneCell_toArray (rv_one _)) ?_
   have hHb := hHeld.trans ((apart_setRow wa Z (rv g.d).toArray).mono (by simp))
   replace HOY := hid (keepB (apart_setRow wa Z (rv g.d).toArray) HOY.out HNx.out.2.2.2.2.1.symm)
   replace HOZ := hid (setRow_heap _ _ _ (rv g.d).toArray _ _ HOZ.out)
   generalize wa.setRow Z (rv g.d).toArray = wb at *
   try dsimp only
   refine hKK.out _ _ hHb (fun hHeld => ?_)
   clear hKK KK
   try simp only [zA,zB,zC,zD,zF]
   refine wpAnyH_done (by kernel_rfl) ?_ _
   have HDe := hid (HD.out.kept hHeld (by simp; exact ⟨HNx.out.2.2.2.2.2.1, HNx.out.2.2.2.2.2.2⟩) (by intro x hx; simp at hx; have := HN.out; have := HWB.out; omega))
   have HAe : Hid (Apart [R] w wb) := hid (HA.out.trans' hHeld (by intro x hx; simp at hx; exact .inr (by have := HN.out; omega)))
   clear hHeld hHa hHb
   go_wp2_with fail
   refine bodyPost_ret (results_row_row rfl _ _ Y Z 60 (rv g.u).toArray (rv g.d).toArray _ _ rfl rfl HOY.out HOZ.out Tryz.underlying60 rfl (by rw [size60]; simp [rv_len, Hgl.out.1]) (by rw [size60]; simp [rv_len, Hgl.out.2])) rfl ?_
   exact ⟨rfl, HDe.out, HAe.out⟩
theorem drd_row2 {wB w : World} {R : Nat} {s : Sl} {bs : List Nat} {a : Nat} {bad : Bool} (h : Dr wB w R s bs a bad) {size : Nat} (hs : size ≤ 3) : Calls Tryz.prog 63 #[.pointer (some ⟨R, 0, none⟩), .int .i64 (size : Int), .bool true] w fun x w' => x = .returned (.tuple #[.agg (rv (rowDD bs a bad size true).u).toArray, .agg (rv (rowDD bs a bad size true).d).toArray]) ∧ Dr wB w' R s bs (rowDD bs a bad size true).at_ (rowDD bs a bad size true).bad ∧ Apart [R] w w' := by
 have HD0 := hid h
 have Hs := hid hs
 have HRl := hid (lt_of_heap h.blk)
 have HWB := hid h.ap.size
 have HU := hid h.u8
 clear h hs
 obtain ⟨g, Hg⟩ : ∃ g, Hid (g = rowDD bs a bad size true) := ⟨_, hid rfl⟩
 rw [← Hg.out]
 obtain ⟨mk, Hmk⟩ : ∃ m, Hid (m = dnum bs a 1) := ⟨_, hid rfl⟩
 have hmk : mk < 256 := by rw [Hmk.out]; exact dnum_lt HU.out a 1
 have HA := hid (Apart.refl [] w)
 go_enter Tryz.func63, Tryz.ntmps63
 go_upto_region 2 with fail
 obtain ⟨Y, HXY⟩ : ∃ X, Hid (X = w.heap.size) := ⟨_, rfl⟩
 obtain ⟨w1, hw1⟩ : ∃ W, W = w.alloc (.cells (rv zr).toArray 60) := ⟨_, rfl⟩
 have HS1 : Hid (Apart [] w w1) := hid (zM hw1)
 have HBY : Hid (w1.heap[Y]? = some (.cells (rv zr).toArray 60 (0, 0))) := hid (zN HXY.out hw1)
 obtain ⟨Z, HXZ⟩ : ∃ X, Hid (X = w1.heap.size) := ⟨_, rfl⟩
 obtain ⟨w2, hw2⟩ : ∃ W, W = w1.alloc (.cells (rv zr).toArray 60) := ⟨_, rfl⟩
 have HS2 : Hid (Apart [] w1 w2) := hid (zM hw2)
 have HBZ : Hid (w2.heap[Z]? = some (.cells (rv zr).toArray 60 (0, 0))) := hid (zN HXZ.out hw2)
 obtain ⟨X, HXX⟩ : ∃ X, Hid (X = w2.heap.size) := ⟨_, rfl⟩
 obtain ⟨w3, hw3⟩ : ∃ W, W = w2.alloc (.cells (rv zr).toArray 60) := ⟨_, rfl⟩
 have HS3 : Hid (Apart [] w2 w3) := hid (zM hw3)
 have HBX : Hid (w3.heap[X]? = some (.cells (rv (pad8 [])).toArray 60 (0, 0))) := hid (zN HXX.out hw3)
 obtain ⟨T, HXT⟩ : ∃ X, Hid (X = w3.heap.size) := ⟨_, rfl⟩
 obtain ⟨w4, hw4⟩ : ∃ W, W = w3.alloc (.cells (rv zr).toArray 60) := ⟨_, rfl⟩
 have HS4 : Hid (Apart [] w3 w4) := hid (zM hw4)
 have HBT : Hid (w4.heap[T]? = some (.cells (rv (pad8 [])).toArray 60 (0, 0))) := hid (zN HXT.out hw4)
 have heZ : Y + 1 = Z := by rw [HXZ.out, hw1, HXY.out]; exact (Array.size_push _).symm
 have heX : Z + 1 = X := by rw [HXX.out, hw2, HXZ.out]; exact (Array.size_push _).symm
 have heT : X + 1 = T := by rw [HXT.out, hw3, HXX.out]; exact (Array.size_push _).symm
 have HN : Hid (R < Y ∧ Z = Y + 1 ∧ X = Y + 2 ∧ T = Y + 3 ∧ w.heap.size ≤ Y) := hid (by have := HXY.out; have := HRl.out; omega)
 replace HA := hid (((HS1.out.trans HS2.out).trans HS3.out).trans HS4.out)
 replace HBY := hid (keep0 ((HS2.out.trans HS3.out).trans HS4.out) HBY.out)
 replace HBZ := hid (keep0 (HS3.out.trans HS4.out) HBZ.out)
 replace HBX := hid (keep0 HS4.out HBX.out)
 change Code.wp _ _ _ _ ((((w.alloc (.cells (rv zr).toArray 60)).alloc (.cells (rv zr).toArray 60)).alloc (.cells (rv zr).toArray 60)).alloc (.cells (rv zr).toArray 60))
 rw [← hw1, ← HXY.out, ← hw2, heZ, ← hw3, heX, ← hw4, heT]
 clear hw1 hw2 hw3 hw4 HXY HXZ HXX HXT heZ heX heT HS1 HS2 HS3 HS4
 have HD1 := hid (HD0.out.kept0 HA.out)
 have HC := hid (dnumber_ok HD1.out (k := 1) (by omega))
 rw [← Hmk.out] at HC
 go_upto_region 4 with (go_at_call 62; refine HC.out.mono ?_; rintro _ w5 ⟨rfl, d5, a5⟩; have HD5 := hid d5; have HA5 := hid a5; clear d5 a5)
 replace HBY := hid (keepB HA5.out HBY.out (by have := HN.out; omega))
 replace HBZ := hid (keepB HA5.out HBZ.out (by have := HN.out; omega))
 replace HBX := hid (keepB HA5.out HBX.out (by have := HN.out; omega))
 replace HBT := hid (keepB HA5.out HBT.out (by have := HN.out; omega))
 have HAr := hid ((HA.out.mono (by simp)).trans HA5.out : Apart [R] w w5)
 obtain ⟨rs, Hrs⟩ : ∃ f : Nat → Rs, Hid (f = rwD bs mk size true (dat bs a 1) (bad || dbad bs a 1)) := ⟨_, hid rfl⟩
 have Hlen : Hid (∀ i, (rs i).u.length = i ∧ (rs i).d.length = i) := hid (fun i => by rw [Hrs.out]; exact rwD_len _ _ _ _ _ _ i)
 have Hst : Hid (∀ i, rs (i + 1) = rwS bs mk size true (rs i) i) := hid (fun i => by rw [Hrs.out]; rfl)
 have H00 : Hid (rs 0 = ⟨[], [], dat bs a 1, bad || dbad bs a 1⟩) := hid (by rw [Hrs.out]; rfl)
 clear HC HD1 HD0 HA HA5
 go_loopw [10, 11] (fun v10 v wt => ∃ i m : Nat, v = .int .i64 (i : Nat) ∧ v10 = .int .i64 (m : Nat) ∧ i ≤ 8 ∧ Hid (m = mk / 2 ^ i) ∧ Hid (Dr wB wt R s bs (rs i).at_ (rs i).bad) ∧ Hid (wt.heap[X]? = some (.cells (rv (pad8 (rs i).u)).toArray 60 (0, 0))) ∧ Hid (wt.heap[T]? = some (.cells (rv (pad8 (rs i).d)).toArray 60 (0, 0))) ∧ Hid (wt.heap[Y]? = some (.cells (rv zr).toArray 60 (0, 0))) ∧ Hid (wt.heap[Z]? = some (.cells (rv zr).toArray 60 (0, 0))) ∧ Hid (Apart [R] w wt)) (fun _ v _ => 8 - natV v)
 case atStart => exact ⟨0, mk, rfl, rfl, Nat.zero_le _, hid (by simp), by rw [H00.out]; exact HD5, by rw [H00.out]; exact HBX, by rw [H00.out]; exact HBT, HBY, HBZ, HAr⟩
 case round =>
  clear HD5 HBX HBT HBY HBZ HAr
  obtain ⟨i, m, rfl, rfl, hi, Hm, HD, HBX, HBT, HBY, HBZ, HA⟩ := hrel
  generalize wr = wt at *
  by_cases hlt : i < 8
  ·have hlti : ((i : Nat) : Int) < 8 := by omega
   have Hlt := hid hlt
   have hi4 : ¬ (8 : Int) ≤ ((i : Nat) : Int) := by omega
   have Hi8 := hid hi4
   have hm256 : m < 256 := by
    rw [Hm.out]
    exact Nat.lt_of_le_of_lt (Nat.div_le_self _ _) hmk
   have Hm2 : Hid (m / 2 = mk / 2 ^ (i + 1)) := hid (by rw [Hm.out, Nat.div_div_eq_div_mul, Nat.pow_succ])
   obtain ⟨l, Hl⟩ : ∃ l, Hid (l = (rs i).u) := ⟨_, hid rfl⟩
   obtain ⟨l2, Hl2⟩ : ∃ l, Hid (l = (rs i).d) := ⟨_, hid rfl⟩
   obtain ⟨q, Hq⟩ : ∃ l, Hid (l = (rs i).at_) := ⟨_, hid rfl⟩
   obtain ⟨b, Hb⟩ : ∃ l, Hid (l = (rs i).bad) := ⟨_, hid rfl⟩
   have Hll : Hid (l.length = i ∧ l2.length = i) := hid (by rw [Hl.out, Hl2.out]; exact Hlen.out i)
   rw [← Hl.out] at HBX
   rw [← Hl2.out] at HBT
   rw [← Hq.out, ← Hb.out] at HD
   have Hnx := hid (Hst.out i)
   obtain ⟨nx, Hnxe⟩ : ∃ x, Hid (x = rs (i + 1)) := ⟨_, hid rfl⟩
   rw [← Hnxe.out] at Hnx
   obtain ⟨t, Ht⟩ : ∃ t, Hid (t = m % 2) := ⟨_, hid rfl⟩
   have ht2 : t < 2 := by rw [Ht.out]; omega
   have hmod : ((m : Int) % 2) = (t : Int) := by rw [Ht.out]; omega
   have hdiv : ((m : Int) / 2) = ((m / 2 : Nat) : Int) := by omega
   have Hmod := hid hmod
   have Hdiv := hid hdiv
   have htm : Int.tmod (m : Int) 2 = (t : Int) := by rw [Int.tmod_eq_emod_of_nonneg (by omega)]; exact hmod
   have htd : Int.tdiv (m : Int) 2 = ((m / 2 : Nat) : Int) := by rw [Int.tdiv_eq_ediv_of_nonneg (by omega)]; exact hdiv
   clear hmod hdiv
   by_cases hb : t = 1
   ·have Hb1 : Hid (mk / 2 ^ i % 2 = 1) := hid (by rw [← Hm.out, ← Ht.out]; exact hb)
    subst hb
    obtain ⟨y, Hy⟩ : ∃ y, Hid (y = dnum bs q size) := ⟨_, hid rfl⟩
    have HC := hid (dnumber_ok HD.out Hs.out)
    rw [← Hy.out] at HC
    have htb : (((1 : Nat) : Int) == 1) = true := by simp
    go_upto_region 8 with (
     go_at_call 62
     refine HC.out.mono ?_
     rintro _ w6 ⟨rfl, d6, a6⟩
     have HD6 := hid d6
     have HA6 := hid a6
     have HBX6 := hid (keepB a6 HBX.out (by have := HN.out; omega))
     have HBT6 := hid (keepB a6 HBT.out (by have := HN.out; omega))
     have zx := rcell60 HBX6.out (by rw [pad8_len (by rw [Hll.out.1]; have := Hlt.out; omega)]) Hlt.out
     have fx := frozen_of_row _ _ i _ _ HBX6.out
     clear d6 a6)
    clear zx fx
    have HBX7 := hid (row_put HBX6.out Hll.out.1 Hlt.out (y : Int))
    have HSx : Hid (Apart [X] w6 (w6.setCell ⟨X, i, none⟩ (.int .i64 (y : Int)))) := hid ((Apart.refl [X] w6).setCell (.inl (by simp)) _)
    generalize w6.setCell ⟨X, i, none⟩ (.int .i64 (y : Int)) = w7 at *
    have HBT7 := hid (keepB HSx.out HBT6.out (by have := HN.out; omega))
    have HBY7 := hid (keepB HSx.out (keepB HA6.out HBY.out (by have := HN.out; omega)) (by have := HN.out; omega))
    have HBZ7 := hid (keepB HSx.out (keepB HA6.out HBZ.out (by have := HN.out; omega)) (by have := HN.out; omega))
    have HD7 := hid (HD6.out.kept HSx.out (by simp; have := HN.out; omega) (by intro x hx; simp at hx; rw [hx]; have := HN.out; have := HWB.out; omega))
    have HA7 : Hid (Apart [R] w w7) := hid ((HA.out.trans HA6.out).trans' HSx.out (by intro x hx; simp at hx; rw [hx]; exact .inr (by have := HN.out; omega)))
    obtain ⟨q2, Hq2⟩ : ∃ y, Hid (y = dat bs q size) := ⟨_, hid rfl⟩
    rw [← Hq2.out] at HD7
    obtain ⟨y2, Hy2⟩ : ∃ y, Hid (y = dnum bs q2 size) := ⟨_, hid rfl⟩
    have HC2 := hid (dnumber_ok HD7.out Hs.out)
    rw [← Hy2.out] at HC2
    have Hn2 : Hid (nx = ⟨l ++ [(y : Int)], l2 ++ [(y2 : Int)], dat bs q2 size, (b || dbad bs q size) || dbad bs q2 size⟩) := hid (by
     rw [Hnx.out]
     unfold rwS
     rw [if_pos Hb1.out, if_pos rfl, ← Hl.out, ← Hl2.out, ← Hq.out, ← Hb.out, ← Hy.out, ← Hq2.out, ← Hy2.out])
    rw [Hnxe.out] at Hn2
    go_upto_region 10 with (
     go_at_call 62
     refine HC2.out.mono ?_
     rintro _ w8 ⟨rfl, d8, a8⟩
     have HD8 := hid d8
     have HA8 := hid a8
     have HBX8 := hid (keepB a8 HBX7.out (by have := HN.out; omega))
     have HBT8 := hid (keepB a8 HBT7.out (by have := HN.out; omega))
     have zx := rcell60 HBT8.out (by rw [pad8_len (by rw [Hll.out.2]; have := Hlt.out; omega)]) Hlt.out
     have fx := frozen_of_row _ _ i _ _ HBT8.out
     clear d8 a8)
    clear zx fx
    have HBT9 := hid (row_put HBT8.out Hll.out.2 Hlt.out (y2 : Int))
    have HSt : Hid (Apart [T] w8 (w8.setCell ⟨T, i, none⟩ (.int .i64 (y2 : Int)))) := hid ((Apart.refl [T] w8).setCell (.inl (by simp)) _)
    generalize w8.setCell ⟨T, i, none⟩ (.int .i64 (y2 : Int)) = w9 at *
    have HBX9 := hid (keepB HSt.out HBX8.out (by have := HN.out; omega))
    have HBY9 := hid (keepB HSt.out (keepB HA8.out HBY7.out (by have := HN.out; omega)) (by have := HN.out; omega))
    have HBZ9 := hid (keepB HSt.out (keepB HA8.out HBZ7.out (by have := HN.out; omega)) (by have := HN.out; omega))
    have HD9 := hid (HD8.out.kept HSt.out (by simp; have := HN.out; omega) (by intro x hx; simp at hx; rw [hx]; have := HN.out; have := HWB.out; omega))
    have HA9 : Hid (Apart [R] w w9) := hid ((HA7.out.trans HA8.out).trans' HSt.out (by intro x hx; simp at hx; rw [hx]; exact .inr (by have := HN.out; omega)))
    go_wp2_with fail
    refine ⟨⟨i + 1, m / 2, by go_num, rfl, by omega, Hm2, ?_, ?_, ?_, HBY9, HBZ9, HA9⟩, by simp [natV]; omega⟩
    ·rw [Hn2.out]; exact HD9
    ·rw [Hn2.out]; exact HBX9
    ·rw [Hn2.out]; exact HBT9
   ·have Hb0 : Hid (¬ mk / 2 ^ i % 2 = 1) := hid (by rw [← Hm.out, ← Ht.out]; exact hb)
    have h0 : t = 0 := by omega
    subst h0
    have Hn2 : Hid (nx = ⟨l ++ [0], l2 ++ [0], q, b⟩) := hid (by
     rw [Hnx.out]
     unfold rwS
     rw [if_neg Hb0.out, ← Hl.out, ← Hl2.out, ← Hq.out, ← Hb.out])
    rw [Hnxe.out] at Hn2
    have htb : (((0 : Nat) : Int) == 1) = false := by simp
    go_wp2_with fail
    refine ⟨⟨i + 1, m / 2, by go_num, rfl, by omega, Hm2, ?_, ?_, ?_, HBY, HBZ, HA⟩, by simp [natV]; omega⟩
    ·rw [Hn2.out]; exact HD
    ·rw [Hn2.out]
     show Hid (wt.heap[X]? = some (.cells (rv (pad8 (l ++ [0]))).toArray 60 (0, 0)))
     rw [pad8_zero (by rw [Hll.out.1]; exact Hlt.out)]
     exact HBX
    ·rw [Hn2.out]
     show Hid (wt.heap[T]? = some (.cells (rv (pad8 (l2 ++ [0]))).toArray 60 (0, 0)))
     rw [pad8_zero (by rw [Hll.out.2]; exact Hlt.out)]
     exact HBT
  ·have hlti : ¬ ((i : Nat) : Int) < 8 := by omega
   obtain rfl : i = 8 := by omega
   have Hg8 : Hid (rs 8 = g) := hid (by rw [Hrs.out, Hg.out, Hmk.out]; rfl)
   rw [Hg8.out] at HD HBX HBT
   have Hgl : Hid (g.u.length = 8 ∧ g.d.length = 8) := hid (by rw [← Hg8.out]; exact Hlen.out 8)
   rw [pad8_end Hgl.out.1] at HBX
   rw [pad8_end Hgl.out.2] at HBT
   go_upto_region 11 with fail
   have hAd : Apart [Y, Z] wt wt.drew := (Apart.refl [Y, Z] wt).drew
   have HOY : Hid (wt.drew.heap[Y]? = some (.cells (rv zr).toArray 60 (0, 0))) := HBY
   have HOZ : Hid (wt.drew.heap[Z]? = some (.cells (rv zr).toArray 60 (0, 0))) := HBZ
   have HNx : Hid (X ≠ Y ∧ X ≠ Z ∧ T ≠ Y ∧ T ≠ Z ∧ Z ≠ Y ∧ R ≠ Y ∧ R ≠ Z) := hid (by have := HN.out; omega)
   refine wp_region_held_drew (S := fun W => Apart [Y, Z] wt W) (by kernel_rfl) hAd (fun hHeld => ?_)
   generalize wt.drew = wd at *
   clear hAd
   refine tk 0 34 (.agg (rv g.u).toArray) rfl ?_ ?_
   ·intro W hSW; exact ex_load60 _ rfl _ _ _ rfl (rgR (keepYZ hSW HBX.out HNx.out.1 HNx.out.2.1)) (by rw [rv_len, Hgl.out.1])
   simp only [zA,zB,zC,zD,zF]
   refine tk 1 35 (.agg (rv g.d).toArray) rfl ?_ ?_
   ·intro W hSW; exact ex_load60 _ rfl _ _ _ rfl (rgR (keepYZ hSW HBT.out HNx.out.2.2.1 HNx.out.2.2.2.1)) (by rw [rv_len, Hgl.out.2])
   simp only [zA,zB,zC,zD,zF]
   refine zQ 2 fun KK hKK => ?_
   rw [if_pos (by rfl)]
   refine wp_store_row 60 _ _ rfl Y (rv g.u).toArray rfl rfl 60 _ HOY.out (by rw [size60]; simp [rv_len, Hgl.out.1]) (by simp [rv_len, Hgl.out.1]; rfl) (all_oneCell_toArray (rv_one _)) ?_
   have hHa := hHeld.trans ((apart_setRow wd Y (rv g.u).toArray).mono (by simp))
   replace HOZ := hid (keepB (apart_setRow wd Y (rv g.u).toArray) HOZ.out HNx.out.2.2.2.2.1)
   replace HOY := hid (setRow_heap _ _ _ (rv g.u).toArray _ _ HOY.out)
   generalize wd.setRow Y (rv g.u).toArray = wa at *
   try dsimp only
   refine hKK.out _ _ hHa (fun hHeld => ?_)
   clear hKK KK
   try simp only [zA,zB,zC,zD,zF]
   refine zQ 3 fun KK hKK => ?_
   rw [if_pos (by rfl)]
   refine wp_store_row 60 _ _ rfl Z (rv g.d).toArray rfl rfl 60 _ HOZ.out (by rw [size60]; simp [rv_len, Hgl.out.2]) (by simp [rv_len, Hgl.out.2]; rfl) (all_oneCell_toArray (rv_one _)) ?_
   have hHb := hHeld.trans ((apart_setRow wa Z (rv g.d).toArray).mono (by simp))
   replace HOY := hid (keepB (apart_setRow wa Z (rv g.d).toArray) HOY.out HNx.out.2.2.2.2.1.symm)
   replace HOZ := hid (setRow_heap _ _ _ (rv g.d).toArray _ _ HOZ.out)
   generalize wa.setRow Z (rv g.d).toArray = wb at *
   try dsimp only
   refine hKK.out _ _ hHb (fun hHeld => ?_)
   clear hKK KK
   try simp only [zA,zB,zC,zD,zF]
   refine wpAnyH_done (by kernel_rfl) ?_ _
   have HDe := hid (HD.out.kept hHeld (by simp; exact ⟨HNx.out.2.2.2.2.2.1, HNx.out.2.2.2.2.2.2⟩) (by intro x hx; simp at hx; have := HN.out; have := HWB.out; omega))
   have HAe : Hid (Apart [R] w wb) := hid (HA.out.trans' hHeld (by intro x hx; simp at hx; exact .inr (by have := HN.out; omega)))
   clear hHeld hHa hHb
   go_wp2_with fail
   refine bodyPost_ret (results_row_row rfl _ _ Y Z 60 (rv g.u).toArray (rv g.d).toArray _ _ rfl rfl HOY.out HOZ.out Tryz.underlying60 rfl (by rw [size60]; simp [rv_len, Hgl.out.1]) (by rw [size60]; simp [rv_len, Hgl.out.2])) rfl ?_
   exact ⟨rfl, HDe.out, HAe.out⟩
end Go.Proofs.YtdbeeikjngnnnaaGreat.ty
