import Derived.Test.YtdbeeikjngnnnaaGreatC29
namespace Go.Proofs.YtdbeeikjngnnnaaGreat.ty
open Go.ChangeShapes Go.WideShapes Go.ChangeAt Go.RowKit
set_option linter.unusedVariables false
set_option linter.unusedSimpArgs false
set_option maxRecDepth 100000
set_option maxHeartbeats 8000000
theorem Dk.setUp {w : World} {O : Nat} {r : Rv} {s : Sl} (h : Dk w O r s) {i : Nat} (hi : i < 8) (x : Int) : Dk (w.setCell ⟨O, 1 + i, none⟩ (.int .i64 x)) O { r with u := r.u.set i x } s := by
 refine h.wr ((Apart.refl [O] w).setCell (.inl (by simp)) _) ?_ rfl (by show (r.u.set i x).length = 8; rw [List.length_set]; exact h.dv.lu) h.dv.ld h.dv.lc
 rw [heap_setCell_same w O (1 + i) _ 63 _ h.dv.blk, List.setIfInBounds_toArray, dset_up hi h.dv.lu]
theorem Dk.setDown {w : World} {O : Nat} {r : Rv} {s : Sl} (h : Dk w O r s) {i : Nat} (hi : i < 8) (x : Int) : Dk (w.setCell ⟨O, 9 + i, none⟩ (.int .i64 x)) O { r with d := r.d.set i x } s := by
 refine h.wr ((Apart.refl [O] w).setCell (.inl (by simp)) _) ?_ rfl h.dv.lu (by show (r.d.set i x).length = 8; rw [List.length_set]; exact h.dv.ld) h.dv.lc
 rw [heap_setCell_same w O (9 + i) _ 63 _ h.dv.blk, List.setIfInBounds_toArray, dset_down hi h.dv.lu h.dv.ld]
theorem Dk.setCount {w : World} {O : Nat} {r : Rv} {s : Sl} (h : Dk w O r s) {i : Nat} (hi : i < 8) (x : Int) : Dk (w.setCell ⟨O, 17 + i, none⟩ (.int .i64 x)) O { r with c := r.c.set i x } s := by
 refine h.wr ((Apart.refl [O] w).setCell (.inl (by simp)) _) ?_ rfl h.dv.lu h.dv.ld (by show (r.c.set i x).length = 8; rw [List.length_set]; exact h.dv.lc)
 rw [heap_setCell_same w O (17 + i) _ 63 _ h.dv.blk, List.setIfInBounds_toArray, dset_count hi h.dv.lu h.dv.ld h.dv.lc]
def addD (u d : List Int) (i : Nat) (b : Int) : Int × (List Int × List Int) :=
 if b > 16777215 ∨ b < -16777215 then (92, u, d) else if u.getD i 0 + max b 0 > 16777215 ∨ d.getD i 0 - min b 0 > 16777215 then (92, u, d) else (0, u.set i (u.getD i 0 + max b 0), d.set i (d.getD i 0 - min b 0))
theorem set_self (u : List Int) (i : Nat) (h : i < u.length) : u.set i (u.getD i 0) = u := by
 apply List.ext_getElem?
 intro j
 rw [List.getElem?_set]
 by_cases e : i = j
 ·subst e
  rw [if_pos rfl, if_pos h, List.getD_eq_getElem?_getD, List.getElem?_eq_getElem h]; rfl
 ·rw [if_neg e]
theorem radd_wide {w : World} {O : Nat} {r : Rv} {s : Sl} (h : Dk w O r s) (hu : Wd r.u) (hd : Wd r.d) {i : Nat} (hi : i < 8) {b : Int} (hb : b > 16777215 ∨ b < -16777215) : Calls Tryz.prog 50 #[.pointer (some ⟨O, 0, none⟩), .int .i64 (i : Int), .int .i64 b] w fun x w' => x = .returned (.int .i64 92) ∧ Apart [] w w' := by
 have HD := hid h
 have h8 : ¬ (8 : Int) ≤ (i : Int) := by omega
 have h1 := hu.at i hi
 have h2 := hd.at i hi
 have zu := h.dv.up hi
 have zd := h.dv.down hi
 obtain ⟨x, Hx⟩ : ∃ x, Hid (x = r.u.getD i 0) := ⟨_, hid rfl⟩
 obtain ⟨y, Hy⟩ : ∃ x, Hid (x = r.d.getD i 0) := ⟨_, hid rfl⟩
 rw [← Hx.out] at h1 zu
 rw [← Hy.out] at h2 zd
 have Hu := hid hu
 have Hd := hid hd
 have Hi := hid hi
 have HA := hid (Apart.refl [] w)
 rcases hb with hb | hb
 ·have hb2 : ¬ b < -16777215 := by omega
  clear h hu hd hi
  go_enter Tryz.func50, Tryz.ntmps50
  go_wp2_with fail
  go_ret
  exact ⟨rfl, HA.out⟩
 ·have hb2 : ¬ b > 16777215 := by omega
  clear h hu hd hi
  go_enter Tryz.func50, Tryz.ntmps50
  go_wp2_with fail
  go_ret
  exact ⟨rfl, HA.out⟩
theorem radd_up_no {w : World} {O : Nat} {r : Rv} {s : Sl} (h : Dk w O r s) (hu : Wd r.u) (hd : Wd r.d) {i : Nat} (hi : i < 8) {b : Int} (hb : ¬ b > 16777215) (hp : b > 0) (hm : r.u.getD i 0 + b > 16777215) : Calls Tryz.prog 50 #[.pointer (some ⟨O, 0, none⟩), .int .i64 (i : Int), .int .i64 b] w fun x w' => x = .returned (.int .i64 92) ∧ Apart [] w w' := by
 have HD := hid h
 have h8 : ¬ (8 : Int) ≤ (i : Int) := by omega
 have h1 := hu.at i hi
 have h2 := hd.at i hi
 have zu := h.dv.up hi
 have zd := h.dv.down hi
 obtain ⟨x, Hx⟩ : ∃ x, Hid (x = r.u.getD i 0) := ⟨_, hid rfl⟩
 obtain ⟨y, Hy⟩ : ∃ x, Hid (x = r.d.getD i 0) := ⟨_, hid rfl⟩
 rw [← Hx.out] at h1 zu
 rw [← Hy.out] at h2 zd
 have Hu := hid hu
 have Hd := hid hd
 have Hi := hid hi
 have HA := hid (Apart.refl [] w)
 rw [← Hx.out] at hm
 have hb2 : ¬ b < -16777215 := by omega
 have hw : wrap64 (x + b) = x + b := IntWalk.wrap64_in _ (by omega)
 clear h hu hd hi
 go_enter Tryz.func50, Tryz.ntmps50
 go_wp2_with fail
 go_ret
 exact ⟨rfl, HA.out⟩
theorem radd_down_no {w : World} {O : Nat} {r : Rv} {s : Sl} (h : Dk w O r s) (hu : Wd r.u) (hd : Wd r.d) {i : Nat} (hi : i < 8) {b : Int} (hb : ¬ b < -16777215) (hp : b < 0) (hm : r.d.getD i 0 - b > 16777215) : Calls Tryz.prog 50 #[.pointer (some ⟨O, 0, none⟩), .int .i64 (i : Int), .int .i64 b] w fun x w' => x = .returned (.int .i64 92) ∧ Apart [] w w' := by
 have HD := hid h
 have h8 : ¬ (8 : Int) ≤ (i : Int) := by omega
 have h1 := hu.at i hi
 have h2 := hd.at i hi
 have zu := h.dv.up hi
 have zd := h.dv.down hi
 obtain ⟨x, Hx⟩ : ∃ x, Hid (x = r.u.getD i 0) := ⟨_, hid rfl⟩
 obtain ⟨y, Hy⟩ : ∃ x, Hid (x = r.d.getD i 0) := ⟨_, hid rfl⟩
 rw [← Hx.out] at h1 zu
 rw [← Hy.out] at h2 zd
 have Hu := hid hu
 have Hd := hid hd
 have Hi := hid hi
 have HA := hid (Apart.refl [] w)
 rw [← Hy.out] at hm
 have hb2 : ¬ b > 16777215 := by omega
 have hb3 : ¬ b > 0 := by omega
 have hw : wrap64 (y - b) = y - b := IntWalk.wrap64_in _ (by omega)
 clear h hu hd hi
 go_enter Tryz.func50, Tryz.ntmps50
 go_wp2_with fail
 go_ret
 exact ⟨rfl, HA.out⟩
theorem radd_up {w : World} {O : Nat} {r : Rv} {s : Sl} (h : Dk w O r s) (hu : Wd r.u) (hd : Wd r.d) {i : Nat} (hi : i < 8) {b : Int} (hb : ¬ b > 16777215) (hp : b > 0) (hm : ¬ r.u.getD i 0 + b > 16777215) : Calls Tryz.prog 50 #[.pointer (some ⟨O, 0, none⟩), .int .i64 (i : Int), .int .i64 b] w fun x w' => x = .returned (.int .i64 0) ∧ Apart [O] w w' ∧ ∃ s', Dk w' O { r with u := r.u.set i (r.u.getD i 0 + b) } s' := by
 have HD := hid h
 have h8 : ¬ (8 : Int) ≤ (i : Int) := by omega
 have h1 := hu.at i hi
 have h2 := hd.at i hi
 have zu := h.dv.up hi
 have zd := h.dv.down hi
 obtain ⟨x, Hx⟩ : ∃ x, Hid (x = r.u.getD i 0) := ⟨_, hid rfl⟩
 obtain ⟨y, Hy⟩ : ∃ x, Hid (x = r.d.getD i 0) := ⟨_, hid rfl⟩
 rw [← Hx.out] at h1 zu
 rw [← Hy.out] at h2 zd
 have Hu := hid hu
 have Hd := hid hd
 have Hi := hid hi
 rw [← Hx.out] at hm ⊢
 have hb2 : ¬ b < -16777215 := by omega
 have hb3 : ¬ b < 0 := by omega
 have hw : wrap64 (x + b) = x + b := IntWalk.wrap64_in _ (by omega)
 have Hw : Hid (IntKind.i64.wrap (x + b) = x + b) := hid (by rw [IntKind.wrap_i64]; omega)
 clear h hu hd
 have Hi8 := hid h8
 have HOl := hid (lt_of_heap HD.out.dv.blk)
 go_enter Tryz.func50, Tryz.ntmps50
 go_upto_region 4 with fail
 have HAd : Hid (Apart [] w w.drew) := (Apart.refl [] w).drew
 have Hz := hid zu
 clear zu zd h1 h2
 clear hw
 have hAd : Apart [O] w w.drew := (Apart.refl [O] w).drew
 refine wp_region_held_drew (S := fun W => Apart [O] w W) (by kernel_rfl) hAd (fun hHeld => ?_)
 generalize w.drew = wd at *
 clear hAd
 refine zt 0 45 ?_
 refine zt 1 46 ?_
 refine zt 2 47 ?_
 refine zt 3 48 ?_
 simp only [zA,zB,zC,zD,zF]
 refine tk 4 49 (.pointer (some ⟨O, 1 + i, none⟩)) rfl ?_ ?_
 ·intro W hSW; have h8 := Hi8.out; go_simp
 refine zt 6 51 ?_
 refine zt 8 53 ?_
 refine zt 9 54 ?_
 simp only [zA,zB,zC,zD,zF]
 refine zQ 5 fun KK hKK => ?_
 have z : wd.cell? ⟨O, 1 + i, none⟩ = some (.int .i64 x) := (HAd.out.cell HOl.out (by simp)).trans Hz.out
 go_simp
 refine hKK.out _ _ hHeld (fun hHeld => ?_)
 clear hKK KK
 try simp only [zA,zB,zC,zD,zF]
 refine tk 7 52 (.int .i64 (x + b)) rfl ?_ ?_
 ·intro W hSW; have h5 : IntKind.i64.wrap (x + b) = x + b := Hw.out; go_simp
 simp only [zA,zB,zC,zD,zF]
 refine tk 10 55 (.pointer (some ⟨O, 1 + i, none⟩)) rfl ?_ ?_
 ·intro W hSW; have h8 := Hi8.out; go_simp
 simp only [zA,zB,zC,zD,zF]
 refine zQ 11 fun KK hKK => ?_
 have z : wd.cell? ⟨O, 1 + i, none⟩ = some (.int .i64 x) := (HAd.out.cell HOl.out (by simp)).trans Hz.out
 have f : wd.frozen? ⟨O, 1 + i, none⟩ = false := frozen_of_row _ _ _ _ _ (HD.out.kept0 HAd.out).dv.blk
 go_simp
 have HDn := hid ((HD.out.kept0 HAd.out).setUp Hi.out (x + b))
 have hHz := hHeld.setCell (p := ⟨O, 1 + i, none⟩) (.inl (by simp)) (.int .i64 (x + b))
 refine hKK.out _ _ hHz (fun hHeld => ?_)
 clear hKK KK
 try simp only [zA,zB,zC,zD,zF]
 refine wpAnyH_done (by kernel_rfl) ?_ _
 have HAn := hid hHeld
 clear hHeld
 go_wp2_with fail
 go_ret
 exact ⟨rfl, HAn.out, _, HDn.out⟩
theorem radd_down {w : World} {O : Nat} {r : Rv} {s : Sl} (h : Dk w O r s) (hu : Wd r.u) (hd : Wd r.d) {i : Nat} (hi : i < 8) {b : Int} (hb : ¬ b < -16777215) (hp : b < 0) (hm : ¬ r.d.getD i 0 - b > 16777215) : Calls Tryz.prog 50 #[.pointer (some ⟨O, 0, none⟩), .int .i64 (i : Int), .int .i64 b] w fun x w' => x = .returned (.int .i64 0) ∧ Apart [O] w w' ∧ ∃ s', Dk w' O { r with d := r.d.set i (r.d.getD i 0 - b) } s' := by
 have HD := hid h
 have h8 : ¬ (8 : Int) ≤ (i : Int) := by omega
 have h1 := hu.at i hi
 have h2 := hd.at i hi
 have zu := h.dv.up hi
 have zd := h.dv.down hi
 obtain ⟨x, Hx⟩ : ∃ x, Hid (x = r.u.getD i 0) := ⟨_, hid rfl⟩
 obtain ⟨y, Hy⟩ : ∃ x, Hid (x = r.d.getD i 0) := ⟨_, hid rfl⟩
 rw [← Hx.out] at h1 zu
 rw [← Hy.out] at h2 zd
 have Hu := hid hu
 have Hd := hid hd
 have Hi := hid hi
 rw [← Hy.out] at hm ⊢
 have hb2 : ¬ b > 16777215 := by omega
 have hb3 : ¬ b > 0 := by omega
 have hw : wrap64 (y - b) = y - b := IntWalk.wrap64_in _ (by omega)
 have Hw : Hid (IntKind.i64.wrap (y - b) = y - b) := hid (by rw [IntKind.wrap_i64]; omega)
 clear h hu hd
 have Hi8 := hid h8
 have HOl := hid (lt_of_heap HD.out.dv.blk)
 go_enter Tryz.func50, Tryz.ntmps50
 go_upto_region 5 with fail
 have HAd : Hid (Apart [] w w.drew) := (Apart.refl [] w).drew
 have Hz := hid zd
 clear zu zd h1 h2
 clear hw
 have hAd : Apart [O] w w.drew := (Apart.refl [O] w).drew
 refine wp_region_held_drew (S := fun W => Apart [O] w W) (by kernel_rfl) hAd (fun hHeld => ?_)
 generalize w.drew = wd at *
 clear hAd
 refine zt 0 56 ?_
 refine zt 1 57 ?_
 refine zt 2 58 ?_
 refine zt 3 59 ?_
 simp only [zA,zB,zC,zD,zF]
 refine tk 4 60 (.pointer (some ⟨O, 9 + i, none⟩)) rfl ?_ ?_
 ·intro W hSW; have h8 := Hi8.out; go_simp
 refine zt 6 62 ?_
 refine zt 8 64 ?_
 refine zt 9 65 ?_
 simp only [zA,zB,zC,zD,zF]
 refine zQ 5 fun KK hKK => ?_
 have z : wd.cell? ⟨O, 9 + i, none⟩ = some (.int .i64 y) := (HAd.out.cell HOl.out (by simp)).trans Hz.out
 go_simp
 refine hKK.out _ _ hHeld (fun hHeld => ?_)
 clear hKK KK
 try simp only [zA,zB,zC,zD,zF]
 refine tk 7 63 (.int .i64 (y - b)) rfl ?_ ?_
 ·intro W hSW; have h5 : IntKind.i64.wrap (y - b) = y - b := Hw.out; go_simp
 simp only [zA,zB,zC,zD,zF]
 refine tk 10 66 (.pointer (some ⟨O, 9 + i, none⟩)) rfl ?_ ?_
 ·intro W hSW; have h8 := Hi8.out; go_simp
 simp only [zA,zB,zC,zD,zF]
 refine zQ 11 fun KK hKK => ?_
 have z : wd.cell? ⟨O, 9 + i, none⟩ = some (.int .i64 y) := (HAd.out.cell HOl.out (by simp)).trans Hz.out
 have f : wd.frozen? ⟨O, 9 + i, none⟩ = false := frozen_of_row _ _ _ _ _ (HD.out.kept0 HAd.out).dv.blk
 go_simp
 have HDn := hid ((HD.out.kept0 HAd.out).setDown Hi.out (y - b))
 have hHz := hHeld.setCell (p := ⟨O, 9 + i, none⟩) (.inl (by simp)) (.int .i64 (y - b))
 refine hKK.out _ _ hHz (fun hHeld => ?_)
 clear hKK KK
 try simp only [zA,zB,zC,zD,zF]
 refine wpAnyH_done (by kernel_rfl) ?_ _
 have HAn := hid hHeld
 clear hHeld
 go_wp2_with fail
 go_ret
 exact ⟨rfl, HAn.out, _, HDn.out⟩
theorem radd_zero {w : World} {O : Nat} {r : Rv} {s : Sl} (h : Dk w O r s) (hu : Wd r.u) (hd : Wd r.d) {i : Nat} (hi : i < 8) {b : Int} (hb : b = 0) : Calls Tryz.prog 50 #[.pointer (some ⟨O, 0, none⟩), .int .i64 (i : Int), .int .i64 b] w fun x w' => x = .returned (.int .i64 0) ∧ Apart [O] w w' ∧ ∃ s', Dk w' O { r with d := r.d.set i (r.d.getD i 0 - b) } s' := by
 have HD := hid h
 have h8 : ¬ (8 : Int) ≤ (i : Int) := by omega
 have h1 := hu.at i hi
 have h2 := hd.at i hi
 have zu := h.dv.up hi
 have zd := h.dv.down hi
 obtain ⟨x, Hx⟩ : ∃ x, Hid (x = r.u.getD i 0) := ⟨_, hid rfl⟩
 obtain ⟨y, Hy⟩ : ∃ x, Hid (x = r.d.getD i 0) := ⟨_, hid rfl⟩
 rw [← Hx.out] at h1 zu
 rw [← Hy.out] at h2 zd
 have Hu := hid hu
 have Hd := hid hd
 have Hi := hid hi
 rw [← Hy.out]
 have hb1 : ¬ b < -16777215 := by omega
 have hb2 : ¬ b > 16777215 := by omega
 have hb3 : ¬ b > 0 := by omega
 have hb4 : ¬ b < 0 := by omega
 have hw : wrap64 (y - b) = y - b := IntWalk.wrap64_in _ (by omega)
 have Hw : Hid (IntKind.i64.wrap (y - b) = y - b) := hid (by rw [IntKind.wrap_i64]; omega)
 clear hb
 clear h hu hd
 have Hi8 := hid h8
 have HOl := hid (lt_of_heap HD.out.dv.blk)
 go_enter Tryz.func50, Tryz.ntmps50
 go_upto_region 5 with fail
 have HAd : Hid (Apart [] w w.drew) := (Apart.refl [] w).drew
 have Hz := hid zd
 clear zu zd h1 h2
 clear hw
 have hAd : Apart [O] w w.drew := (Apart.refl [O] w).drew
 refine wp_region_held_drew (S := fun W => Apart [O] w W) (by kernel_rfl) hAd (fun hHeld => ?_)
 generalize w.drew = wd at *
 clear hAd
 refine zt 0 56 ?_
 refine zt 1 57 ?_
 refine zt 2 58 ?_
 refine zt 3 59 ?_
 simp only [zA,zB,zC,zD,zF]
 refine tk 4 60 (.pointer (some ⟨O, 9 + i, none⟩)) rfl ?_ ?_
 ·intro W hSW; have h8 := Hi8.out; go_simp
 refine zt 6 62 ?_
 refine zt 8 64 ?_
 refine zt 9 65 ?_
 simp only [zA,zB,zC,zD,zF]
 refine zQ 5 fun KK hKK => ?_
 have z : wd.cell? ⟨O, 9 + i, none⟩ = some (.int .i64 y) := (HAd.out.cell HOl.out (by simp)).trans Hz.out
 go_simp
 refine hKK.out _ _ hHeld (fun hHeld => ?_)
 clear hKK KK
 try simp only [zA,zB,zC,zD,zF]
 refine tk 7 63 (.int .i64 (y - b)) rfl ?_ ?_
 ·intro W hSW; have h5 : IntKind.i64.wrap (y - b) = y - b := Hw.out; go_simp
 simp only [zA,zB,zC,zD,zF]
 refine tk 10 66 (.pointer (some ⟨O, 9 + i, none⟩)) rfl ?_ ?_
 ·intro W hSW; have h8 := Hi8.out; go_simp
 simp only [zA,zB,zC,zD,zF]
 refine zQ 11 fun KK hKK => ?_
 have z : wd.cell? ⟨O, 9 + i, none⟩ = some (.int .i64 y) := (HAd.out.cell HOl.out (by simp)).trans Hz.out
 have f : wd.frozen? ⟨O, 9 + i, none⟩ = false := frozen_of_row _ _ _ _ _ (HD.out.kept0 HAd.out).dv.blk
 go_simp
 have HDn := hid ((HD.out.kept0 HAd.out).setDown Hi.out (y - b))
 have hHz := hHeld.setCell (p := ⟨O, 9 + i, none⟩) (.inl (by simp)) (.int .i64 (y - b))
 refine hKK.out _ _ hHz (fun hHeld => ?_)
 clear hKK KK
 try simp only [zA,zB,zC,zD,zF]
 refine wpAnyH_done (by kernel_rfl) ?_ _
 have HAn := hid hHeld
 clear hHeld
 go_wp2_with fail
 go_ret
 exact ⟨rfl, HAn.out, _, HDn.out⟩
theorem radd_ok {w : World} {O : Nat} {r : Rv} {s : Sl} (h : Dk w O r s) (hu : Wd r.u) (hd : Wd r.d) {i : Nat} (hi : i < 8) (b : Int) : Calls Tryz.prog 50 #[.pointer (some ⟨O, 0, none⟩), .int .i64 (i : Int), .int .i64 b] w fun x w' => x = .returned (.int .i64 (addD r.u r.d i b).1) ∧ Apart [O] w w' ∧ ∃ s', Dk w' O { r with u := (addD r.u r.d i b).2.1, d := (addD r.u r.d i b).2.2 } s' := by
 have h1 := hu.at i hi
 have h2 := hd.at i hi
 have no : ∀ {x w'}, (addD r.u r.d i b) = (92, r.u, r.d) → x = Ending.returned (.int .i64 92) ∧ Apart [] w w' → x = .returned (.int .i64 (addD r.u r.d i b).1) ∧ Apart [O] w w' ∧ ∃ s', Dk w' O { r with u := (addD r.u r.d i b).2.1, d := (addD r.u r.d i b).2.2 } s' := by
  rintro x w' e ⟨rfl, a⟩
  rw [e]
  exact ⟨rfl, a.mono (by simp), s, h.kept0 a⟩
 by_cases hw : b > 16777215 ∨ b < -16777215
 ·refine (radd_wide h hu hd hi hw).mono fun x w' => no ?_
  unfold addD; rw [if_pos hw]
 ·by_cases hn : r.u.getD i 0 + max b 0 > 16777215 ∨ r.d.getD i 0 - min b 0 > 16777215
  ·have e : addD r.u r.d i b = (92, r.u, r.d) := by unfold addD; rw [if_neg hw, if_pos hn]
   by_cases hp : b > 0
   ·exact (radd_up_no h hu hd hi (by omega) hp (by omega)).mono fun x w' => no e
   ·exact (radd_down_no h hu hd hi (by omega) (by omega) (by omega)).mono fun x w' => no e
  ·have e : addD r.u r.d i b = (0, r.u.set i (r.u.getD i 0 + max b 0), r.d.set i (r.d.getD i 0 - min b 0)) := by unfold addD; rw [if_neg hw, if_neg hn]
   rw [e]
   by_cases hp : b > 0
   ·refine (radd_up h hu hd hi (by omega) hp (by omega)).mono ?_
    rintro x w' ⟨rfl, a, s', k⟩
    refine ⟨rfl, a, s', ?_⟩
    have e1 : max b 0 = b := by omega
    have e2 : min b 0 = 0 := by omega
    simp only [e1, e2, Int.sub_zero, set_self r.d i (by rw [hd.1]; exact hi)]
    exact k
   ·have e1 : max b 0 = 0 := by omega
    have e2 : min b 0 = b := by omega
    have key : ∀ {x : Ending} {w' : World}, (x = .returned (.int .i64 0) ∧ Apart [O] w w' ∧ ∃ s', Dk w' O { r with d := r.d.set i (r.d.getD i 0 - b) } s') → x = .returned (.int .i64 0) ∧ Apart [O] w w' ∧ ∃ s', Dk w' O { r with u := r.u.set i (r.u.getD i 0 + max b 0), d := r.d.set i (r.d.getD i 0 - min b 0) } s' := by
     rintro x w' ⟨rfl, a, s', k⟩
     refine ⟨rfl, a, s', ?_⟩
     simp only [e1, e2, Int.add_zero, set_self r.u i (by rw [hu.1]; exact hi)]
     exact k
    by_cases h0 : b = 0
    ·exact (radd_zero h hu hd hi h0).mono fun x w' => key
    ·exact (radd_down h hu hd hi (by omega) (by omega) (by omega)).mono fun x w' => key
end Go.Proofs.YtdbeeikjngnnnaaGreat.ty
