import Derived.Test.YtdbeeikjngnnnaaGreatC33
namespace Go.Proofs.YtdbeeikjngnnnaaGreat.ty
open Go.ChangeShapes Go.WideShapes Go.ChangeAt Go.RowKit
set_option linter.unusedVariables false
set_option linter.unusedSimpArgs false
set_option maxRecDepth 100000
set_option maxHeartbeats 8000000
def tyOf (k : Nat) : Nat := if k = 1 then 1 else if k = 2 then 2 else if k = 3 then 2 else if k = 4 then 3 else 4
theorem typeOf_ok (w : World) (k : Nat) (h1 : 1 ≤ k) (h5 : k ≤ 5) : Calls Tryz.prog 49 #[.int .i64 (k : Int)] w fun x w' => x = .returned (.int .i64 (tyOf k : Int)) ∧ Apart [] w w' := by
 have HA := hid ((Apart.refl [] w).alloc (.cells #[.int .i64 0, .int .i64 1, .int .i64 2, .int .i64 2, .int .i64 3, .int .i64 4] 3))
 obtain rfl | rfl | rfl | rfl | rfl : k = 1 ∨ k = 2 ∨ k = 3 ∨ k = 4 ∨ k = 5 := by omega
 all_goals
  go_enter Tryz.func49, Tryz.ntmps49
  go_wp2_with fail
  go_ret
  exact ⟨rfl, HA.out⟩
def actC (k : Nat) (a b : Int) (on : Bool) (sl : Sl) : Array Value := #[.int .i64 (k : Int), .int .i64 a, .int .i64 b, .bool on, .slice sl.p sl.n sl.c]
theorem typeOf_k (W : World) {K ty : Nat} (hK : (K = 1 ∧ ty = 1) ∨ (K = 2 ∧ ty = 2) ∨ (K = 3 ∧ ty = 2) ∨ (K = 4 ∧ ty = 3) ∨ (K = 5 ∧ ty = 4)) : Calls Tryz.prog 49 #[.int .i64 (K : Int)] W fun x w' => x = .returned (.int .i64 (ty : Int)) ∧ Apart [] W w' := by
 have h1 : tyOf K = ty := by rcases hK with ⟨rfl, rfl⟩ | ⟨rfl, rfl⟩ | ⟨rfl, rfl⟩ | ⟨rfl, rfl⟩ | ⟨rfl, rfl⟩ <;> rfl
 rw [← h1]
 exact typeOf_ok W K (by omega) (by omega)
theorem rdo_type {K ty : Nat} (hK : (K = 1 ∧ ty = 1) ∨ (K = 2 ∧ ty = 2) ∨ (K = 3 ∧ ty = 2) ∨ (K = 4 ∧ ty = 3) ∨ (K = 5 ∧ ty = 4)) {w : World} {O : Nat} {r : Rv} {s : Sl} (h : Dk w O r s) {a b : Int} {on : Bool} {sl : Sl} {kd : Nat} (hk : r.k = kd) (hne : kd ≠ ty) : Calls Tryz.prog 40 #[.pointer (some ⟨O, 0, none⟩), .agg (actC K a b on sl)] w fun x w' => x = .returned (.int .i64 190) ∧ Apart [] w w' := by
 have hnb : (((kd : Nat) : Int) != ((ty : Nat) : Int)) = true := by rw [bne_iff_ne]; omega
 have HD := hid h
 obtain ⟨A, HA⟩ : ∃ A, Hid (A = w.heap.size) := ⟨_, hid rfl⟩
 obtain ⟨w1, Hw1⟩ : ∃ W, Hid (W = w.alloc (.cells (actC K a b on sl) 81)) := ⟨_, hid rfl⟩
 have HAp : Hid (Apart [] w w1) := hid (zM Hw1.out)
 have HBA : Hid (w1.heap[A]? = some (.cells (actC K a b on sl) 81 (0, 0))) := hid (zN HA.out Hw1.out)
 have HD1 := hid (HD.out.kept0 HAp.out)
 have HT : Hid (∀ W : World, Calls Tryz.prog 49 #[.int .i64 (K : Int)] W fun x w' => x = .returned (.int .i64 (ty : Int)) ∧ Apart [] W w') := hid (fun (W : World) => typeOf_k W hK)
 have HOl := hid (lt_of_heap HD1.out.dv.blk)
 have HAl := hid (lt_of_heap HBA.out)
 have Hzk := hid (HD1.out.dv.kind)
 rw [hk] at Hzk
 clear h hk hK
 go_enter Tryz.func40, Tryz.ntmps40
 go_upto_region 1 with fail
 rw [← HA.out, ← Hw1.out]
 clear Hw1 HA
 refine wp_region_held_drew (S := fun W => Apart [] w1 W) (by kernel_rfl) (Apart.refl [] w1).drew fun hHeld => ?_
 generalize w1.drew = wd at *
 refine zt 0 5 ?_
 refine zt 1 6 ?_
 refine zt 2 7 ?_
 refine zu 3 8 rfl (fun W hSW => by have z : W.cell? ⟨O, 0, none⟩ = some (.int .i64 (kd : Int)) := (hSW.cell HOl.out (by simp)).trans Hzk.out; go_simp <;> rfl) ?_
 refine zt 4 9 ?_
 refine zu 5 10 rfl (fun W hSW => by have z : W.cell? ⟨A, 0, none⟩ = some (.int .i64 (K : Int)) := (hSW.cell HAl.out (by simp)).trans (zK HBA.out); go_simp <;> rfl) ?_
 simp only [zA,zB,zC,zD,zF]
 refine zQ 6 fun KK hKK => ?_
 go_simp
 refine (HT.out wd).mono ?_
 rintro _ w2 ⟨rfl, aX⟩
 have hHx := hHeld.trans aX
 try dsimp only
 refine hKK.out _ _ hHx (fun hHeld => ?_)
 clear hKK KK
 try simp only [zA,zB,zC,zD,zF]
 refine zt 7 12 ?_
 simp only [zA,zB,zC,zD,zF]
 refine wpAnyH_done (by kernel_rfl) ?_ _
 have HA2 := hid (HAp.out.trans hHeld)
 have HD2 := hid (HD.out.kept0 HA2.out)
 have HB2 := hid (keep0 hHeld HBA.out)
 clear hHeld HBA HD1 HOl HAl HT Hzk
 have za0 : w2.cell? ⟨A, 0, none⟩ = some (.int .i64 (K : Int)) := zK HB2.out
 have za1 : w2.cell? ⟨A, 1, none⟩ = some (.int .i64 a) := zK HB2.out
 have za2 : w2.cell? ⟨A, 2, none⟩ = some (.int .i64 b) := zK HB2.out
 have za3 : w2.cell? ⟨A, 3, none⟩ = some (.bool on) := zK HB2.out
 have za4 : w2.cell? ⟨A, 4, none⟩ = some (.slice sl.p sl.n sl.c) := zK HB2.out
 go_wp2_with fail
 go_ret
 exact ⟨rfl, HA2.out⟩
theorem rdo_actor {K ty : Nat} (hK : (K = 1 ∧ ty = 1) ∨ (K = 2 ∧ ty = 2) ∨ (K = 4 ∧ ty = 3) ∨ (K = 5 ∧ ty = 4)) {w : World} {O : Nat} {r : Rv} {s : Sl} (h : Dk w O r s) {a b : Int} {on : Bool} {sl : Sl} (hk : r.k = ty) (ha : isA a = false) : Calls Tryz.prog 40 #[.pointer (some ⟨O, 0, none⟩), .agg (actC K a b on sl)] w fun x w' => x = .returned (.int .i64 191) ∧ Apart [] w w' := by
 have hor : a < 0 ∨ (¬ a < 0 ∧ a ≥ 8) := by simp [isA] at ha; omega
 clear ha
 have HD := hid h
 obtain ⟨A, HA⟩ : ∃ A, Hid (A = w.heap.size) := ⟨_, hid rfl⟩
 obtain ⟨w1, Hw1⟩ : ∃ W, Hid (W = w.alloc (.cells (actC K a b on sl) 81)) := ⟨_, hid rfl⟩
 have HAp : Hid (Apart [] w w1) := hid (zM Hw1.out)
 have HBA : Hid (w1.heap[A]? = some (.cells (actC K a b on sl) 81 (0, 0))) := hid (zN HA.out Hw1.out)
 have HD1 := hid (HD.out.kept0 HAp.out)
 have HT : Hid (∀ W : World, Calls Tryz.prog 49 #[.int .i64 (K : Int)] W fun x w' => x = .returned (.int .i64 (ty : Int)) ∧ Apart [] W w') := hid (fun (W : World) => typeOf_k W (by omega))
 have HOl := hid (lt_of_heap HD1.out.dv.blk)
 have HAl := hid (lt_of_heap HBA.out)
 have Hzk := hid (HD1.out.dv.kind)
 rw [hk] at Hzk
 have hk3 : (((K : Nat) : Int) != 3) = true := by rw [bne_iff_ne]; omega
 have hk4 : ¬ ((K : Nat) : Int) = 3 := by omega
 have hty : (((ty : Nat) : Int) != ((ty : Nat) : Int)) = false := by simp
 clear h hk hK
 go_enter Tryz.func40, Tryz.ntmps40
 go_upto_region 1 with fail
 rw [← HA.out, ← Hw1.out]
 clear Hw1 HA
 refine wp_region_held_drew (S := fun W => Apart [] w1 W) (by kernel_rfl) (Apart.refl [] w1).drew fun hHeld => ?_
 generalize w1.drew = wd at *
 refine zt 0 5 ?_
 refine zt 1 6 ?_
 refine zt 2 7 ?_
 refine zu 3 8 rfl (fun W hSW => by have z : W.cell? ⟨O, 0, none⟩ = some (.int .i64 (ty : Int)) := (hSW.cell HOl.out (by simp)).trans Hzk.out; go_simp <;> rfl) ?_
 refine zt 4 9 ?_
 refine zu 5 10 rfl (fun W hSW => by have z : W.cell? ⟨A, 0, none⟩ = some (.int .i64 (K : Int)) := (hSW.cell HAl.out (by simp)).trans (zK HBA.out); go_simp <;> rfl) ?_
 simp only [zA,zB,zC,zD,zF]
 refine zQ 6 fun KK hKK => ?_
 go_simp
 refine (HT.out wd).mono ?_
 rintro _ w2 ⟨rfl, aX⟩
 have hHx := hHeld.trans aX
 try dsimp only
 refine hKK.out _ _ hHx (fun hHeld => ?_)
 clear hKK KK
 try simp only [zA,zB,zC,zD,zF]
 refine zt 7 12 ?_
 simp only [zA,zB,zC,zD,zF]
 refine wpAnyH_done (by kernel_rfl) ?_ _
 have HA2 := hid (HAp.out.trans hHeld)
 have HD2 := hid (HD.out.kept0 HA2.out)
 have HB2 := hid (keep0 hHeld HBA.out)
 clear hHeld HBA HD1 HOl HAl HT Hzk
 have za0 : w2.cell? ⟨A, 0, none⟩ = some (.int .i64 (K : Int)) := zK HB2.out
 have za1 : w2.cell? ⟨A, 1, none⟩ = some (.int .i64 a) := zK HB2.out
 have za2 : w2.cell? ⟨A, 2, none⟩ = some (.int .i64 b) := zK HB2.out
 have za3 : w2.cell? ⟨A, 3, none⟩ = some (.bool on) := zK HB2.out
 have za4 : w2.cell? ⟨A, 4, none⟩ = some (.slice sl.p sl.n sl.c) := zK HB2.out
 rcases hor with h1 | ⟨h1, h2⟩
 ·go_wp2_with fail
  go_ret
  exact ⟨rfl, HA2.out⟩
 ·go_wp2_with fail
  go_ret
  exact ⟨rfl, HA2.out⟩
theorem rdo_type1 {w : World} {O : Nat} {r : Rv} {s : Sl} (h : Dk w O r s) {a b : Int} {on : Bool} {sl : Sl} {kd : Nat} (hk : r.k = kd) (hne : kd ≠ 1) : Calls Tryz.prog 40 #[.pointer (some ⟨O, 0, none⟩), .agg (actC 1 a b on sl)] w fun x w' => x = .returned (.int .i64 190) ∧ Apart [] w w' := rdo_type (K := 1) (ty := 1) (by omega) h hk hne
theorem rdo_type2 {w : World} {O : Nat} {r : Rv} {s : Sl} (h : Dk w O r s) {a b : Int} {on : Bool} {sl : Sl} {kd : Nat} (hk : r.k = kd) (hne : kd ≠ 2) : Calls Tryz.prog 40 #[.pointer (some ⟨O, 0, none⟩), .agg (actC 2 a b on sl)] w fun x w' => x = .returned (.int .i64 190) ∧ Apart [] w w' := rdo_type (K := 2) (ty := 2) (by omega) h hk hne
theorem rdo_type3 {w : World} {O : Nat} {r : Rv} {s : Sl} (h : Dk w O r s) {a b : Int} {on : Bool} {sl : Sl} {kd : Nat} (hk : r.k = kd) (hne : kd ≠ 2) : Calls Tryz.prog 40 #[.pointer (some ⟨O, 0, none⟩), .agg (actC 3 a b on sl)] w fun x w' => x = .returned (.int .i64 190) ∧ Apart [] w w' := rdo_type (K := 3) (ty := 2) (by omega) h hk hne
theorem rdo_type4 {w : World} {O : Nat} {r : Rv} {s : Sl} (h : Dk w O r s) {a b : Int} {on : Bool} {sl : Sl} {kd : Nat} (hk : r.k = kd) (hne : kd ≠ 3) : Calls Tryz.prog 40 #[.pointer (some ⟨O, 0, none⟩), .agg (actC 4 a b on sl)] w fun x w' => x = .returned (.int .i64 190) ∧ Apart [] w w' := rdo_type (K := 4) (ty := 3) (by omega) h hk hne
theorem rdo_type5 {w : World} {O : Nat} {r : Rv} {s : Sl} (h : Dk w O r s) {a b : Int} {on : Bool} {sl : Sl} {kd : Nat} (hk : r.k = kd) (hne : kd ≠ 4) : Calls Tryz.prog 40 #[.pointer (some ⟨O, 0, none⟩), .agg (actC 5 a b on sl)] w fun x w' => x = .returned (.int .i64 190) ∧ Apart [] w w' := rdo_type (K := 5) (ty := 4) (by omega) h hk hne
theorem rdo_actor1 {w : World} {O : Nat} {r : Rv} {s : Sl} (h : Dk w O r s) {a b : Int} {on : Bool} {sl : Sl} (hk : r.k = 1) (ha : isA a = false) : Calls Tryz.prog 40 #[.pointer (some ⟨O, 0, none⟩), .agg (actC 1 a b on sl)] w fun x w' => x = .returned (.int .i64 191) ∧ Apart [] w w' := rdo_actor (K := 1) (ty := 1) (by omega) h hk ha
theorem rdo_actor2 {w : World} {O : Nat} {r : Rv} {s : Sl} (h : Dk w O r s) {a b : Int} {on : Bool} {sl : Sl} (hk : r.k = 2) (ha : isA a = false) : Calls Tryz.prog 40 #[.pointer (some ⟨O, 0, none⟩), .agg (actC 2 a b on sl)] w fun x w' => x = .returned (.int .i64 191) ∧ Apart [] w w' := rdo_actor (K := 2) (ty := 2) (by omega) h hk ha
theorem rdo_actor4 {w : World} {O : Nat} {r : Rv} {s : Sl} (h : Dk w O r s) {a b : Int} {on : Bool} {sl : Sl} (hk : r.k = 3) (ha : isA a = false) : Calls Tryz.prog 40 #[.pointer (some ⟨O, 0, none⟩), .agg (actC 4 a b on sl)] w fun x w' => x = .returned (.int .i64 191) ∧ Apart [] w w' := rdo_actor (K := 4) (ty := 3) (by omega) h hk ha
theorem rdo_actor5 {w : World} {O : Nat} {r : Rv} {s : Sl} (h : Dk w O r s) {a b : Int} {on : Bool} {sl : Sl} (hk : r.k = 4) (ha : isA a = false) : Calls Tryz.prog 40 #[.pointer (some ⟨O, 0, none⟩), .agg (actC 5 a b on sl)] w fun x w' => x = .returned (.int .i64 191) ∧ Apart [] w w' := rdo_actor (K := 5) (ty := 4) (by omega) h hk ha
theorem rdo_add {w : World} {O : Nat} {r : Rv} {s : Sl} (h : Dk w O r s) {a b : Int} {on : Bool} {sl : Sl} (hk : r.k = 1) {i : Nat} (hi : i < 8) (ha : a = (i : Int)) (hu : Wd r.u) (hd : Wd r.d) : Calls Tryz.prog 40 #[.pointer (some ⟨O, 0, none⟩), .agg (actC 1 a b on sl)] w fun x w' => x = .returned (.int .i64 (addD r.u r.d i b).1) ∧ Apart [O] w w' ∧ ∃ s', Dk w' O { r with u := (addD r.u r.d i b).2.1, d := (addD r.u r.d i b).2.2 } s' := by
 subst ha
 have h1 : ¬ ((i : Nat) : Int) < 0 := by omega
 have h2 : ¬ ((i : Nat) : Int) ≥ 8 := by omega
 have HC := hid (fun (W : World) (hW : Dk W O r s) => radd_ok hW hu hd hi b)
 clear hu hd
 have HD := hid h
 obtain ⟨A, HA⟩ : ∃ A, Hid (A = w.heap.size) := ⟨_, hid rfl⟩
 obtain ⟨w1, Hw1⟩ : ∃ W, Hid (W = w.alloc (.cells (actC 1 (i : Int) b on sl) 81)) := ⟨_, hid rfl⟩
 have HAp : Hid (Apart [] w w1) := hid (zM Hw1.out)
 have HBA : Hid (w1.heap[A]? = some (.cells (actC 1 (i : Int) b on sl) 81 (0, 0))) := hid (zN HA.out Hw1.out)
 have HD1 := hid (HD.out.kept0 HAp.out)
 have HT : Hid (∀ W : World, Calls Tryz.prog 49 #[.int .i64 1] W fun x w' => x = .returned (.int .i64 1) ∧ Apart [] W w') := hid (fun (W : World) => typeOf_ok W 1 (by decide) (by decide))
 have HOl := hid (lt_of_heap HD1.out.dv.blk)
 have HAl := hid (lt_of_heap HBA.out)
 have Hzk := hid (HD1.out.dv.kind)
 rw [hk] at Hzk
 clear h hk
 go_enter Tryz.func40, Tryz.ntmps40
 go_upto_region 1 with fail
 rw [← HA.out, ← Hw1.out]
 clear Hw1 HA
 refine wp_region_held_drew (S := fun W => Apart [] w1 W) (by kernel_rfl) (Apart.refl [] w1).drew fun hHeld => ?_
 generalize w1.drew = wd at *
 refine zt 0 5 ?_
 refine zt 1 6 ?_
 refine zt 2 7 ?_
 refine zu 3 8 rfl (fun W hSW => by have z : W.cell? ⟨O, 0, none⟩ = some (.int .i64 1) := (hSW.cell HOl.out (by simp)).trans Hzk.out; go_simp <;> rfl) ?_
 refine zt 4 9 ?_
 refine zu 5 10 rfl (fun W hSW => by have z : W.cell? ⟨A, 0, none⟩ = some (.int .i64 1) := (hSW.cell HAl.out (by simp)).trans (zK HBA.out); go_simp <;> rfl) ?_
 simp only [zA,zB,zC,zD,zF]
 refine zQ 6 fun KK hKK => ?_
 go_simp
 refine (HT.out wd).mono ?_
 rintro _ w2 ⟨rfl, aX⟩
 have hHx := hHeld.trans aX
 try dsimp only
 refine hKK.out _ _ hHx (fun hHeld => ?_)
 clear hKK KK
 try simp only [zA,zB,zC,zD,zF]
 refine zt 7 12 ?_
 simp only [zA,zB,zC,zD,zF]
 refine wpAnyH_done (by kernel_rfl) ?_ _
 have HA2 := hid (HAp.out.trans hHeld)
 have HD2 := hid (HD.out.kept0 HA2.out)
 have HB2 := hid (keep0 hHeld HBA.out)
 clear hHeld HBA HD1 HOl HAl HT Hzk
 have za0 : w2.cell? ⟨A, 0, none⟩ = some (.int .i64 1) := zK HB2.out
 have za1 : w2.cell? ⟨A, 1, none⟩ = some (.int .i64 (i : Int)) := zK HB2.out
 have za2 : w2.cell? ⟨A, 2, none⟩ = some (.int .i64 b) := zK HB2.out
 have za3 : w2.cell? ⟨A, 3, none⟩ = some (.bool on) := zK HB2.out
 have za4 : w2.cell? ⟨A, 4, none⟩ = some (.slice sl.p sl.n sl.c) := zK HB2.out
 go_wp2_with (
  go_at_call 50
  refine (HC.out w2 HD2.out).mono ?_
  rintro _ w3 ⟨rfl, a3, s3, k3⟩
  have HA3 := hid ((HA2.out.mono (by simp)).trans a3)
  have HD3 := hid k3
  clear a3 k3)
 go_ret
 exact ⟨rfl, HA3.out, s3, HD3.out⟩
theorem rdo_put {w : World} {O : Nat} {r : Rv} {s : Sl} (h : Dk w O r s) {a b : Int} {on : Bool} {sl : Sl} (hk : r.k = 2) {i : Nat} (ha : a = (i : Int)) (h8 : i < 8) {bs : List Nat} (hb : Rd w sl.p (byts bs)) (hl : bs.length = sl.n) (ok : sl.ok) {Q : Ending → World → World → Prop} (HC : ∀ W : World, Dk W O r s → Calls Tryz.prog 51 #[.pointer (some ⟨O, 0, none⟩), .int .i64 (i : Int), .string (strB bs)] W fun x w' => ∃ e, x = .returned (.int .i64 e) ∧ Q x W w') : Calls Tryz.prog 40 #[.pointer (some ⟨O, 0, none⟩), .agg (actC 2 a b on sl)] w fun x w' => ∃ e W, x = .returned (.int .i64 e) ∧ Apart [] w W ∧ Q x W w' := by
 subst ha
 have h1 : ¬ ((i : Nat) : Int) < 0 := by omega
 have h2 : ¬ ((i : Nat) : Int) ≥ 8 := by omega
 have HC := hid HC
 have Hb := hid hb
 have Hbl := hid hl
 have Hbo := hid ok
 clear hb hl ok
 have HD := hid h
 obtain ⟨A, HA⟩ : ∃ A, Hid (A = w.heap.size) := ⟨_, hid rfl⟩
 obtain ⟨w1, Hw1⟩ : ∃ W, Hid (W = w.alloc (.cells (actC 2 (i : Int) b on sl) 81)) := ⟨_, hid rfl⟩
 have HAp : Hid (Apart [] w w1) := hid (zM Hw1.out)
 have HBA : Hid (w1.heap[A]? = some (.cells (actC 2 (i : Int) b on sl) 81 (0, 0))) := hid (zN HA.out Hw1.out)
 have HD1 := hid (HD.out.kept0 HAp.out)
 have HT : Hid (∀ W : World, Calls Tryz.prog 49 #[.int .i64 2] W fun x w' => x = .returned (.int .i64 2) ∧ Apart [] W w') := hid (fun (W : World) => typeOf_ok W 2 (by decide) (by decide))
 have HOl := hid (lt_of_heap HD1.out.dv.blk)
 have HAl := hid (lt_of_heap HBA.out)
 have Hzk := hid (HD1.out.dv.kind)
 rw [hk] at Hzk
 clear h hk
 go_enter Tryz.func40, Tryz.ntmps40
 go_upto_region 1 with fail
 rw [← HA.out, ← Hw1.out]
 clear Hw1 HA
 refine wp_region_held_drew (S := fun W => Apart [] w1 W) (by kernel_rfl) (Apart.refl [] w1).drew fun hHeld => ?_
 generalize w1.drew = wd at *
 refine zt 0 5 ?_
 refine zt 1 6 ?_
 refine zt 2 7 ?_
 refine zu 3 8 rfl (fun W hSW => by have z : W.cell? ⟨O, 0, none⟩ = some (.int .i64 2) := (hSW.cell HOl.out (by simp)).trans Hzk.out; go_simp <;> rfl) ?_
 refine zt 4 9 ?_
 refine zu 5 10 rfl (fun W hSW => by have z : W.cell? ⟨A, 0, none⟩ = some (.int .i64 2) := (hSW.cell HAl.out (by simp)).trans (zK HBA.out); go_simp <;> rfl) ?_
 simp only [zA,zB,zC,zD,zF]
 refine zQ 6 fun KK hKK => ?_
 go_simp
 refine (HT.out wd).mono ?_
 rintro _ w2 ⟨rfl, aX⟩
 have hHx := hHeld.trans aX
 try dsimp only
 refine hKK.out _ _ hHx (fun hHeld => ?_)
 clear hKK KK
 try simp only [zA,zB,zC,zD,zF]
 refine zt 7 12 ?_
 simp only [zA,zB,zC,zD,zF]
 refine wpAnyH_done (by kernel_rfl) ?_ _
 have HA2 := hid (HAp.out.trans hHeld)
 have HD2 := hid (HD.out.kept0 HA2.out)
 have HB2 := hid (keep0 hHeld HBA.out)
 clear hHeld HBA HD1 HOl HAl HT Hzk
 have za0 : w2.cell? ⟨A, 0, none⟩ = some (.int .i64 2) := zK HB2.out
 have za1 : w2.cell? ⟨A, 1, none⟩ = some (.int .i64 (i : Int)) := zK HB2.out
 have za2 : w2.cell? ⟨A, 2, none⟩ = some (.int .i64 b) := zK HB2.out
 have za3 : w2.cell? ⟨A, 3, none⟩ = some (.bool on) := zK HB2.out
 have za4 : w2.cell? ⟨A, 4, none⟩ = some (.slice sl.p sl.n sl.c) := zK HB2.out
 have hcv := conv_bytes (Hb.out.kept0 HA2.out) Hbl.out Hbo.out
 go_wp2_with (
  go_at_call 51
  refine (HC.out w2 HD2.out).mono ?_
  rintro _ w3 ⟨e3, rfl, q3⟩
  have HQ := hid q3
  clear q3)
 go_ret
 exact ⟨e3, w2, rfl, HA2.out, HQ.out⟩
theorem rdo_take {w : World} {O : Nat} {r : Rv} {s : Sl} (h : Dk w O r s) {a b : Int} {on : Bool} {sl : Sl} (hk : r.k = 2) (hts : r.ts.length ≤ 10000) {bs : List Nat} (hb : Rd w sl.p (byts bs)) (hl : bs.length = sl.n) (ok : sl.ok) : Calls Tryz.prog 40 #[.pointer (some ⟨O, 0, none⟩), .agg (actC 3 a b on sl)] w fun x w' => x = .returned (.int .i64 0) ∧ Apart [O] w w' ∧ ∃ s', Dk w' O { r with ts := takeT r.ts (strB bs) } s' := by
 have HC := hid (fun (W : World) (hW : Dk W O r s) => rtake_ok hW hts (strB bs))
 have Hb := hid hb
 have Hbl := hid hl
 have Hbo := hid ok
 clear hb hl ok hts
 have HD := hid h
 obtain ⟨A, HA⟩ : ∃ A, Hid (A = w.heap.size) := ⟨_, hid rfl⟩
 obtain ⟨w1, Hw1⟩ : ∃ W, Hid (W = w.alloc (.cells (actC 3 a b on sl) 81)) := ⟨_, hid rfl⟩
 have HAp : Hid (Apart [] w w1) := hid (zM Hw1.out)
 have HBA : Hid (w1.heap[A]? = some (.cells (actC 3 a b on sl) 81 (0, 0))) := hid (zN HA.out Hw1.out)
 have HD1 := hid (HD.out.kept0 HAp.out)
 have HT : Hid (∀ W : World, Calls Tryz.prog 49 #[.int .i64 3] W fun x w' => x = .returned (.int .i64 2) ∧ Apart [] W w') := hid (fun (W : World) => typeOf_ok W 3 (by decide) (by decide))
 have HOl := hid (lt_of_heap HD1.out.dv.blk)
 have HAl := hid (lt_of_heap HBA.out)
 have Hzk := hid (HD1.out.dv.kind)
 rw [hk] at Hzk
 clear h hk
 go_enter Tryz.func40, Tryz.ntmps40
 go_upto_region 1 with fail
 rw [← HA.out, ← Hw1.out]
 clear Hw1 HA
 refine wp_region_held_drew (S := fun W => Apart [] w1 W) (by kernel_rfl) (Apart.refl [] w1).drew fun hHeld => ?_
 generalize w1.drew = wd at *
 refine zt 0 5 ?_
 refine zt 1 6 ?_
 refine zt 2 7 ?_
 refine zu 3 8 rfl (fun W hSW => by have z : W.cell? ⟨O, 0, none⟩ = some (.int .i64 2) := (hSW.cell HOl.out (by simp)).trans Hzk.out; go_simp <;> rfl) ?_
 refine zt 4 9 ?_
 refine zu 5 10 rfl (fun W hSW => by have z : W.cell? ⟨A, 0, none⟩ = some (.int .i64 3) := (hSW.cell HAl.out (by simp)).trans (zK HBA.out); go_simp <;> rfl) ?_
 simp only [zA,zB,zC,zD,zF]
 refine zQ 6 fun KK hKK => ?_
 go_simp
 refine (HT.out wd).mono ?_
 rintro _ w2 ⟨rfl, aX⟩
 have hHx := hHeld.trans aX
 try dsimp only
 refine hKK.out _ _ hHx (fun hHeld => ?_)
 clear hKK KK
 try simp only [zA,zB,zC,zD,zF]
 refine zt 7 12 ?_
 simp only [zA,zB,zC,zD,zF]
 refine wpAnyH_done (by kernel_rfl) ?_ _
 have HA2 := hid (HAp.out.trans hHeld)
 have HD2 := hid (HD.out.kept0 HA2.out)
 have HB2 := hid (keep0 hHeld HBA.out)
 clear hHeld HBA HD1 HOl HAl HT Hzk
 have za0 : w2.cell? ⟨A, 0, none⟩ = some (.int .i64 3) := zK HB2.out
 have za1 : w2.cell? ⟨A, 1, none⟩ = some (.int .i64 a) := zK HB2.out
 have za2 : w2.cell? ⟨A, 2, none⟩ = some (.int .i64 b) := zK HB2.out
 have za3 : w2.cell? ⟨A, 3, none⟩ = some (.bool on) := zK HB2.out
 have za4 : w2.cell? ⟨A, 4, none⟩ = some (.slice sl.p sl.n sl.c) := zK HB2.out
 have hcv := conv_bytes (Hb.out.kept0 HA2.out) Hbl.out Hbo.out
 go_wp2_with (
  go_at_call 52
  refine (HC.out w2 HD2.out).mono ?_
  rintro _ w3 ⟨rfl, a3, s3, k3, -, -, -⟩
  have HA3 := hid ((HA2.out.mono (by simp)).trans a3)
  have HD3 := hid k3
  clear a3 k3)
 go_ret
 exact ⟨rfl, HA3.out, s3, HD3.out⟩
theorem rdo_off {w : World} {O : Nat} {r : Rv} {s : Sl} (h : Dk w O r s) {a b : Int} {on : Bool} {sl : Sl} (hk : r.k = 3) {i : Nat} (hi : i < 8) (ha : a = (i : Int)) (hon : on = false) : Calls Tryz.prog 40 #[.pointer (some ⟨O, 0, none⟩), .agg (actC 4 a b on sl)] w fun x w' => x = .returned (.int .i64 0) ∧ Apart [O] w w' ∧ ∃ s', Dk w' O { r with ts := [] } s' := by
 subst ha
 subst hon
 have h1 : ¬ ((i : Nat) : Int) < 0 := by omega
 have h2 : ¬ ((i : Nat) : Int) ≥ 8 := by omega
 have h8 : ¬ (8 : Int) ≤ (i : Int) := by omega
 have Hi := hid hi
 have Hi8 := hid h8
 have HD := hid h
 obtain ⟨A, HA⟩ : ∃ A, Hid (A = w.heap.size) := ⟨_, hid rfl⟩
 obtain ⟨w1, Hw1⟩ : ∃ W, Hid (W = w.alloc (.cells (actC 4 (i : Int) b false sl) 81)) := ⟨_, hid rfl⟩
 have HAp : Hid (Apart [] w w1) := hid (zM Hw1.out)
 have HBA : Hid (w1.heap[A]? = some (.cells (actC 4 (i : Int) b false sl) 81 (0, 0))) := hid (zN HA.out Hw1.out)
 have HD1 := hid (HD.out.kept0 HAp.out)
 have HT : Hid (∀ W : World, Calls Tryz.prog 49 #[.int .i64 4] W fun x w' => x = .returned (.int .i64 3) ∧ Apart [] W w') := hid (fun (W : World) => typeOf_ok W 4 (by decide) (by decide))
 have HOl := hid (lt_of_heap HD1.out.dv.blk)
 have HAl := hid (lt_of_heap HBA.out)
 have Hzk := hid (HD1.out.dv.kind)
 rw [hk] at Hzk
 clear h hk
 go_enter Tryz.func40, Tryz.ntmps40
 go_upto_region 1 with fail
 rw [← HA.out, ← Hw1.out]
 clear Hw1 HA
 refine wp_region_held_drew (S := fun W => Apart [] w1 W) (by kernel_rfl) (Apart.refl [] w1).drew fun hHeld => ?_
 generalize w1.drew = wd at *
 refine zt 0 5 ?_
 refine zt 1 6 ?_
 refine zt 2 7 ?_
 refine zu 3 8 rfl (fun W hSW => by have z : W.cell? ⟨O, 0, none⟩ = some (.int .i64 3) := (hSW.cell HOl.out (by simp)).trans Hzk.out; go_simp <;> rfl) ?_
 refine zt 4 9 ?_
 refine zu 5 10 rfl (fun W hSW => by have z : W.cell? ⟨A, 0, none⟩ = some (.int .i64 4) := (hSW.cell HAl.out (by simp)).trans (zK HBA.out); go_simp <;> rfl) ?_
 simp only [zA,zB,zC,zD,zF]
 refine zQ 6 fun KK hKK => ?_
 go_simp
 refine (HT.out wd).mono ?_
 rintro _ w2 ⟨rfl, aX⟩
 have hHx := hHeld.trans aX
 try dsimp only
 refine hKK.out _ _ hHx (fun hHeld => ?_)
 clear hKK KK
 try simp only [zA,zB,zC,zD,zF]
 refine zt 7 12 ?_
 simp only [zA,zB,zC,zD,zF]
 refine wpAnyH_done (by kernel_rfl) ?_ _
 have HA2 := hid (HAp.out.trans hHeld)
 have HD2 := hid (HD.out.kept0 HA2.out)
 have HB2 := hid (keep0 hHeld HBA.out)
 clear hHeld HBA HD1 HOl HAl HT Hzk
 have za0 : w2.cell? ⟨A, 0, none⟩ = some (.int .i64 4) := zK HB2.out
 have za1 : w2.cell? ⟨A, 1, none⟩ = some (.int .i64 (i : Int)) := zK HB2.out
 have za2 : w2.cell? ⟨A, 2, none⟩ = some (.int .i64 b) := zK HB2.out
 have za3 : w2.cell? ⟨A, 3, none⟩ = some (.bool false) := zK HB2.out
 have za4 : w2.cell? ⟨A, 4, none⟩ = some (.slice sl.p sl.n sl.c) := zK HB2.out
 have HAl := hid (lt_of_heap HB2.out)
 go_upto_region 13 with fail
 refine wp_region_held_drew (S := fun W => Apart [] w2 W) (by kernel_rfl) (Apart.refl [] w2).drew fun hHeld => ?_
 generalize w2.drew = wd at *
 refine zt 0 54 ?_
 refine zu 1 55 rfl (fun W hSW => by have z : W.cell? ⟨A, 3, none⟩ = some (.bool false) := (hSW.cell HAl.out (by simp)).trans (zK HB2.out); go_simp <;> rfl) ?_
 refine zt 2 56 ?_
 simp only [zA,zB,zC,zD,zF]
 refine tu 3 57 rfl ?_
 simp only [zA,zB,zC,zD,zF]
 refine tu 4 58 rfl ?_
 simp only [zA,zB,zC,zD,zF]
 refine tu 5 59 rfl ?_
 simp only [zA,zB,zC,zD,zF]
 refine tu 6 60 rfl ?_
 simp only [zA,zB,zC,zD,zF]
 refine tu 7 61 rfl ?_
 simp only [zA,zB,zC,zD,zF]
 refine tu 8 62 rfl ?_
 simp only [zA,zB,zC,zD,zF]
 refine tu 9 63 rfl ?_
 simp only [zA,zB,zC,zD,zF]
 refine tu 10 64 rfl ?_
 refine zt 11 65 ?_
 simp only [zA,zB,zC,zD,zF]
 refine wpAnyH_done (by kernel_rfl) ?_ _
 have HA3 := hid (HA2.out.trans hHeld)
 have HD3 := hid (HD2.out.kept0 hHeld)
 have HB3 := hid (keep0 hHeld HB2.out)
 clear hHeld za0 za1 za2 za3 za4
 have z25 := HD3.out.dv.tags
 have f25 : wd.frozen? ⟨O, 25, none⟩ = false := frozen_of_row _ _ _ _ _ HD3.out.dv.blk
 go_upto_region 16 with fail
 clear z25 f25
 have HD4 := hid (HD3.out.put (Nw.none96 w wd HA3.out) rfl)
 have HA4 : Hid (Apart [O] w (wd.setCell ⟨O, 25, none⟩ (.slice none 0 0))) := hid ((HA3.out.mono (by simp)).setCell (.inl (by simp)) _)
 have HOA : Hid (A ≠ O) := hid (fun e => by
  have h1 := HB2.out
  rw [e, HD2.out.dv.blk] at h1
  simp at h1)
 have HB4 : Hid ((wd.setCell ⟨O, 25, none⟩ (.slice none 0 0)).heap[A]? = some (.cells (actC 4 (i : Int) b false sl) 81 (0, 0))) := hid (keepB ((Apart.refl [O] wd).setCell (.inl (by simp)) _) HB3.out HOA.out)
 generalize (wd.setCell ⟨O, 25, none⟩ (.slice none 0 0)) = w4 at *
 have zb : w4.cell? ⟨A, 3, none⟩ = some (.bool false) := zK HB4.out
 go_wp2_with fail
 go_ret
 exact ⟨rfl, HA4.out, _, HD4.out⟩
theorem rdo_onfull {w : World} {O : Nat} {r : Rv} {s : Sl} (h : Dk w O r s) {a b : Int} {on : Bool} {sl : Sl} (hk : r.k = 3) {i : Nat} (hi : i < 8) (ha : a = (i : Int)) (hon : on = true) (hx : r.c.getD i 0 ≥ 65535) : Calls Tryz.prog 40 #[.pointer (some ⟨O, 0, none⟩), .agg (actC 4 a b on sl)] w fun x w' => x = .returned (.int .i64 92) ∧ Apart [] w w' := by
 subst ha
 subst hon
 have h1 : ¬ ((i : Nat) : Int) < 0 := by omega
 have h2 : ¬ ((i : Nat) : Int) ≥ 8 := by omega
 have h8 : ¬ (8 : Int) ≤ (i : Int) := by omega
 have Hi := hid hi
 have Hi8 := hid h8
 have zc := h.dv.count hi
 obtain ⟨m, Hm⟩ : ∃ m : Nat, Hid (r.c.getD i 0 = (m : Int)) := ⟨(r.c.getD i 0).toNat, hid (by omega)⟩
 rw [Hm.out] at hx zc
 have HFULL : Hid ((m : Int) ≥ 65535) := hid hx
 have Hzc := hid zc
 clear zc hx
 have HD := hid h
 obtain ⟨A, HA⟩ : ∃ A, Hid (A = w.heap.size) := ⟨_, hid rfl⟩
 obtain ⟨w1, Hw1⟩ : ∃ W, Hid (W = w.alloc (.cells (actC 4 (i : Int) b true sl) 81)) := ⟨_, hid rfl⟩
 have HAp : Hid (Apart [] w w1) := hid (zM Hw1.out)
 have HBA : Hid (w1.heap[A]? = some (.cells (actC 4 (i : Int) b true sl) 81 (0, 0))) := hid (zN HA.out Hw1.out)
 have HD1 := hid (HD.out.kept0 HAp.out)
 have HT : Hid (∀ W : World, Calls Tryz.prog 49 #[.int .i64 4] W fun x w' => x = .returned (.int .i64 3) ∧ Apart [] W w') := hid (fun (W : World) => typeOf_ok W 4 (by decide) (by decide))
 have HOl := hid (lt_of_heap HD1.out.dv.blk)
 have HAl := hid (lt_of_heap HBA.out)
 have Hzk := hid (HD1.out.dv.kind)
 rw [hk] at Hzk
 clear h hk
 go_enter Tryz.func40, Tryz.ntmps40
 go_upto_region 1 with fail
 rw [← HA.out, ← Hw1.out]
 clear Hw1 HA
 refine wp_region_held_drew (S := fun W => Apart [] w1 W) (by kernel_rfl) (Apart.refl [] w1).drew fun hHeld => ?_
 generalize w1.drew = wd at *
 refine zt 0 5 ?_
 refine zt 1 6 ?_
 refine zt 2 7 ?_
 refine zu 3 8 rfl (fun W hSW => by have z : W.cell? ⟨O, 0, none⟩ = some (.int .i64 3) := (hSW.cell HOl.out (by simp)).trans Hzk.out; go_simp <;> rfl) ?_
 refine zt 4 9 ?_
 refine zu 5 10 rfl (fun W hSW => by have z : W.cell? ⟨A, 0, none⟩ = some (.int .i64 4) := (hSW.cell HAl.out (by simp)).trans (zK HBA.out); go_simp <;> rfl) ?_
 simp only [zA,zB,zC,zD,zF]
 refine zQ 6 fun KK hKK => ?_
 go_simp
 refine (HT.out wd).mono ?_
 rintro _ w2 ⟨rfl, aX⟩
 have hHx := hHeld.trans aX
 try dsimp only
 refine hKK.out _ _ hHx (fun hHeld => ?_)
 clear hKK KK
 try simp only [zA,zB,zC,zD,zF]
 refine zt 7 12 ?_
 simp only [zA,zB,zC,zD,zF]
 refine wpAnyH_done (by kernel_rfl) ?_ _
 have HA2 := hid (HAp.out.trans hHeld)
 have HD2 := hid (HD.out.kept0 HA2.out)
 have HB2 := hid (keep0 hHeld HBA.out)
 clear hHeld HBA HD1 HOl HAl HT Hzk
 have za0 : w2.cell? ⟨A, 0, none⟩ = some (.int .i64 4) := zK HB2.out
 have za1 : w2.cell? ⟨A, 1, none⟩ = some (.int .i64 (i : Int)) := zK HB2.out
 have za2 : w2.cell? ⟨A, 2, none⟩ = some (.int .i64 b) := zK HB2.out
 have za3 : w2.cell? ⟨A, 3, none⟩ = some (.bool true) := zK HB2.out
 have za4 : w2.cell? ⟨A, 4, none⟩ = some (.slice sl.p sl.n sl.c) := zK HB2.out
 have HAl := hid (lt_of_heap HB2.out)
 have HOl := hid (lt_of_heap HD2.out.dv.blk)
 have Hzm : Hid (w2.cell? ⟨O, 17 + i, none⟩ = some (.int .i64 (m : Int))) := hid ((HD2.out.dv.count Hi.out).trans (by rw [Hm.out]))
 go_upto_region 13 with fail
 refine wp_region_held_drew (S := fun W => Apart [] w2 W) (by kernel_rfl) (Apart.refl [] w2).drew fun hHeld => ?_
 generalize w2.drew = wd at *
 refine zt 0 54 ?_
 refine zu 1 55 rfl (fun W hSW => by have z : W.cell? ⟨A, 3, none⟩ = some (.bool true) := (hSW.cell HAl.out (by simp)).trans (zK HB2.out); go_simp <;> rfl) ?_
 refine zt 2 56 ?_
 refine zt 3 57 ?_
 refine zt 4 58 ?_
 refine zu 5 59 rfl (fun W hSW => by have z : W.cell? ⟨A, 1, none⟩ = some (.int .i64 (i : Int)) := (hSW.cell HAl.out (by simp)).trans (zK HB2.out); go_simp <;> rfl) ?_
 refine zt 6 60 ?_
 refine zt 7 61 ?_
 simp only [zA,zB,zC,zD,zF]
 refine tk 8 62 (.pointer (some ⟨O, 17 + i, none⟩)) rfl ?_ ?_
 ·intro W hSW; have h8 := Hi8.out; go_simp
 refine zu 9 63 rfl (fun W hSW => by have z : W.cell? ⟨O, 17 + i, none⟩ = some (.int .i64 (m : Int)) := (hSW.cell HOl.out (by simp)).trans Hzm.out; go_simp <;> rfl) ?_
 simp only [zA,zB,zC,zD,zF]
 refine tk 10 64 (.bool true) rfl ?_ ?_
 ·intro W hSW; have hf := HFULL.out; go_simp
 refine zt 11 65 ?_
 simp only [zA,zB,zC,zD,zF]
 refine wpAnyH_done (by kernel_rfl) ?_ _
 have HA3 := hid (HA2.out.trans hHeld)
 clear hHeld za0 za1 za2 za3 za4
 go_wp2_with fail
 go_ret
 exact ⟨rfl, HA3.out⟩
theorem build96b (a b : Int) (W : World) : (Instr.build 96 #[(1, .int .i64 a), (2, .int .i64 b)]).run Tryz.prog W = .ok (.agg #[.string ⟨#[]⟩, .int .i64 a, .int .i64 b]) W := by kernel_rfl
theorem ex_build96b {W : World} {eval : Operand → Value} {op : Oper} {a b : Int} (y z : Operand) (ho : op.op = .build 96 #[(1, y), (2, z)]) (hy : eval y = .int .i64 a) (hz : eval z = .int .i64 b) : (execOp eval op).run Tryz.prog W = .ok (.value (.agg #[.string ⟨#[]⟩, .int .i64 a, .int .i64 b])) W := by
 unfold execOp
 have e1 : (#[(1, y), (2, z)] : Array (Nat × Operand)).map (fun (i, x) => (i, eval x)) = #[(1, .int .i64 a), (2, .int .i64 b)] := by simp [hy, hz]
 simp only [ho, e1, Sem.run_bind, build96b a b W, Sem.run_pure, Result.andThen_ok]
theorem Nw.one96 (w : World) (t : Tg) : Nw w (w.alloc (.cells #[.string t.e, .int .i64 (t.a : Int), .int .i64 (t.n : Int)] 96)) 96 3 ⟨some ⟨w.heap.size, 0, none⟩, 1, 1⟩ (tgL [t]) :=
 ⟨⟨rfl, .inr ⟨w.heap.size, 1, _, rfl, Nat.zero_le _, heap_alloc_new w _, Nat.le_refl _, by unfold maxLen; omega, rfl, rfl⟩⟩, fun k hk => by simp [Sl.v, Value.ownBlock] at hk; rw [← hk]; exact Nat.le_refl _, (Apart.refl [] w).alloc _⟩
theorem rdo_on {w : World} {O : Nat} {r : Rv} {s : Sl} (h : Dk w O r s) {a b : Int} {on : Bool} {sl : Sl} (hk : r.k = 3) {i : Nat} (hi : i < 8) (ha : a = (i : Int)) (hon : on = true) (h0 : 0 ≤ r.c.getD i 0) (hx : ¬ r.c.getD i 0 ≥ 65535) : Calls Tryz.prog 40 #[.pointer (some ⟨O, 0, none⟩), .agg (actC 4 a b on sl)] w fun x w' => x = .returned (.int .i64 0) ∧ Apart [O] w w' ∧ ∃ s', Dk w' O { r with c := r.c.set i (r.c.getD i 0 + 1), ts := [⟨⟨#[]⟩, i, (r.c.getD i 0).toNat + 1⟩] } s' := by
 subst ha
 subst hon
 have h1 : ¬ ((i : Nat) : Int) < 0 := by omega
 have h2 : ¬ ((i : Nat) : Int) ≥ 8 := by omega
 have h8 : ¬ (8 : Int) ≤ (i : Int) := by omega
 have Hi := hid hi
 have Hi8 := hid h8
 have zc := h.dv.count hi
 obtain ⟨m, Hm⟩ : ∃ m : Nat, Hid (r.c.getD i 0 = (m : Int)) := ⟨(r.c.getD i 0).toNat, hid (by omega)⟩
 rw [Hm.out] at hx zc
 have HFULL : Hid (¬ (m : Int) ≥ 65535) := hid hx
 have Hw : Hid (IntKind.i64.wrap ((m : Int) + 1) = (m : Int) + 1) := hid (by rw [IntKind.wrap_i64]; omega)
 have Hzc := hid zc
 have Hlr : Hid (r.u.length = 8 ∧ r.d.length = 8 ∧ r.c.length = 8) := hid ⟨h.dv.lu, h.dv.ld, h.dv.lc⟩
 clear zc hx h0
 have HD := hid h
 obtain ⟨A, HA⟩ : ∃ A, Hid (A = w.heap.size) := ⟨_, hid rfl⟩
 obtain ⟨w1, Hw1⟩ : ∃ W, Hid (W = w.alloc (.cells (actC 4 (i : Int) b true sl) 81)) := ⟨_, hid rfl⟩
 have HAp : Hid (Apart [] w w1) := hid (zM Hw1.out)
 have HBA : Hid (w1.heap[A]? = some (.cells (actC 4 (i : Int) b true sl) 81 (0, 0))) := hid (zN HA.out Hw1.out)
 have HD1 := hid (HD.out.kept0 HAp.out)
 have HT : Hid (∀ W : World, Calls Tryz.prog 49 #[.int .i64 4] W fun x w' => x = .returned (.int .i64 3) ∧ Apart [] W w') := hid (fun (W : World) => typeOf_ok W 4 (by decide) (by decide))
 have HOl := hid (lt_of_heap HD1.out.dv.blk)
 have HAl := hid (lt_of_heap HBA.out)
 have Hzk := hid (HD1.out.dv.kind)
 rw [hk] at Hzk
 clear h hk
 go_enter Tryz.func40, Tryz.ntmps40
 go_upto_region 1 with fail
 rw [← HA.out, ← Hw1.out]
 clear Hw1 HA
 refine wp_region_held_drew (S := fun W => Apart [] w1 W) (by kernel_rfl) (Apart.refl [] w1).drew fun hHeld => ?_
 generalize w1.drew = wd at *
 refine zt 0 5 ?_
 refine zt 1 6 ?_
 refine zt 2 7 ?_
 refine zu 3 8 rfl (fun W hSW => by have z : W.cell? ⟨O, 0, none⟩ = some (.int .i64 3) := (hSW.cell HOl.out (by simp)).trans Hzk.out; go_simp <;> rfl) ?_
 refine zt 4 9 ?_
 refine zu 5 10 rfl (fun W hSW => by have z : W.cell? ⟨A, 0, none⟩ = some (.int .i64 4) := (hSW.cell HAl.out (by simp)).trans (zK HBA.out); go_simp <;> rfl) ?_
 simp only [zA,zB,zC,zD,zF]
 refine zQ 6 fun KK hKK => ?_
 go_simp
 refine (HT.out wd).mono ?_
 rintro _ w2 ⟨rfl, aX⟩
 have hHx := hHeld.trans aX
 try dsimp only
 refine hKK.out _ _ hHx (fun hHeld => ?_)
 clear hKK KK
 try simp only [zA,zB,zC,zD,zF]
 refine zt 7 12 ?_
 simp only [zA,zB,zC,zD,zF]
 refine wpAnyH_done (by kernel_rfl) ?_ _
 have HA2 := hid (HAp.out.trans hHeld)
 have HD2 := hid (HD.out.kept0 HA2.out)
 have HB2 := hid (keep0 hHeld HBA.out)
 clear hHeld HBA HD1 HOl HAl HT Hzk
 have za0 : w2.cell? ⟨A, 0, none⟩ = some (.int .i64 4) := zK HB2.out
 have za1 : w2.cell? ⟨A, 1, none⟩ = some (.int .i64 (i : Int)) := zK HB2.out
 have za2 : w2.cell? ⟨A, 2, none⟩ = some (.int .i64 b) := zK HB2.out
 have za3 : w2.cell? ⟨A, 3, none⟩ = some (.bool true) := zK HB2.out
 have za4 : w2.cell? ⟨A, 4, none⟩ = some (.slice sl.p sl.n sl.c) := zK HB2.out
 have HAl := hid (lt_of_heap HB2.out)
 have HOl := hid (lt_of_heap HD2.out.dv.blk)
 have Hzm : Hid (w2.cell? ⟨O, 17 + i, none⟩ = some (.int .i64 (m : Int))) := hid ((HD2.out.dv.count Hi.out).trans (by rw [Hm.out]))
 go_upto_region 13 with fail
 refine wp_region_held_drew (S := fun W => Apart [] w2 W) (by kernel_rfl) (Apart.refl [] w2).drew fun hHeld => ?_
 generalize w2.drew = wd at *
 refine zt 0 54 ?_
 refine zu 1 55 rfl (fun W hSW => by have z : W.cell? ⟨A, 3, none⟩ = some (.bool true) := (hSW.cell HAl.out (by simp)).trans (zK HB2.out); go_simp <;> rfl) ?_
 refine zt 2 56 ?_
 refine zt 3 57 ?_
 refine zt 4 58 ?_
 refine zu 5 59 rfl (fun W hSW => by have z : W.cell? ⟨A, 1, none⟩ = some (.int .i64 (i : Int)) := (hSW.cell HAl.out (by simp)).trans (zK HB2.out); go_simp <;> rfl) ?_
 refine zt 6 60 ?_
 refine zt 7 61 ?_
 simp only [zA,zB,zC,zD,zF]
 refine tk 8 62 (.pointer (some ⟨O, 17 + i, none⟩)) rfl ?_ ?_
 ·intro W hSW; have h8 := Hi8.out; go_simp
 refine zu 9 63 rfl (fun W hSW => by have z : W.cell? ⟨O, 17 + i, none⟩ = some (.int .i64 (m : Int)) := (hSW.cell HOl.out (by simp)).trans Hzm.out; go_simp <;> rfl) ?_
 simp only [zA,zB,zC,zD,zF]
 refine tk 10 64 (.bool false) rfl ?_ ?_
 ·intro W hSW; have hf := HFULL.out; go_simp
 refine zt 11 65 ?_
 simp only [zA,zB,zC,zD,zF]
 refine wpAnyH_done (by kernel_rfl) ?_ _
 have HA3 := hid (HA2.out.trans hHeld)
 have HD3 := hid (HD2.out.kept0 hHeld)
 have HB3 := hid (keep0 hHeld HB2.out)
 clear hHeld za0 za1 za2 za3 za4
 have z25 := HD3.out.dv.tags
 have f25 : wd.frozen? ⟨O, 25, none⟩ = false := frozen_of_row _ _ _ _ _ HD3.out.dv.blk
 go_upto_region 16 with fail
 clear z25 f25
 have HD4 := hid (HD3.out.put (Nw.none96 w wd HA3.out) rfl)
 have HA4 : Hid (Apart [O] w (wd.setCell ⟨O, 25, none⟩ (.slice none 0 0))) := hid ((HA3.out.mono (by simp)).setCell (.inl (by simp)) _)
 have HOA : Hid (A ≠ O) := hid (fun e => by
  have h1 := HB2.out
  rw [e, HD2.out.dv.blk] at h1
  simp at h1)
 have HAO : Hid (A ∉ [O]) := hid (by simpa using HOA.out)
 have HB4 : Hid ((wd.setCell ⟨O, 25, none⟩ (.slice none 0 0)).heap[A]? = some (.cells (actC 4 (i : Int) b true sl) 81 (0, 0))) := hid (keepB ((Apart.refl [O] wd).setCell (.inl (by simp)) _) HB3.out HOA.out)
 generalize (wd.setCell ⟨O, 25, none⟩ (.slice none 0 0)) = w4 at *
 have HAl4 := hid (lt_of_heap HB4.out)
 have zb : w4.cell? ⟨A, 3, none⟩ = some (.bool true) := zK HB4.out
 go_upto_region 17 with fail
 have hAd : Apart [O] w4 w4.drew := (Apart.refl [O] w4).drew
 have HAd : Hid (Apart [] w4 w4.drew) := hid ((Apart.refl [] w4).drew)
 refine wp_region_held_drew (S := fun W => Apart [O] w4 W) (by kernel_rfl) hAd (fun hHeld => ?_)
 generalize w4.drew = we at *
 clear hAd
 refine zt 0 71 ?_
 refine zt 1 72 ?_
 refine zu 2 73 rfl (fun W hSW => by have z : W.cell? ⟨A, 1, none⟩ = some (.int .i64 (i : Int)) := (hSW.cell HAl4.out HAO.out).trans (zK HB4.out); go_simp <;> rfl) ?_
 refine zt 3 74 ?_
 refine zt 4 75 ?_
 simp only [zA,zB,zC,zD,zF]
 refine tk 5 76 (.pointer (some ⟨O, 17 + i, none⟩)) rfl ?_ ?_
 ·intro W hSW; have h8 := Hi8.out; go_simp
 refine zt 8 79 ?_
 refine zt 9 80 ?_
 simp only [zA,zB,zC,zD,zF]
 refine zQ 6 fun KK hKK => ?_
 have z : we.cell? ⟨O, 17 + i, none⟩ = some (.int .i64 (m : Int)) := ((HD4.out.kept0 HAd.out).dv.count Hi.out).trans (by rw [← Hm.out])
 go_simp
 refine hKK.out _ _ hHeld (fun hHeld => ?_)
 clear hKK KK
 try simp only [zA,zB,zC,zD,zF]
 refine tk 7 78 (.int .i64 ((m : Int) + 1)) rfl ?_ ?_
 ·intro W hSW; have h5 : IntKind.i64.wrap ((m : Int) + 1) = (m : Int) + 1 := Hw.out; go_simp
 simp only [zA,zB,zC,zD,zF]
 refine tk 10 81 (.pointer (some ⟨O, 17 + i, none⟩)) rfl ?_ ?_
 ·intro W hSW; have h8 := Hi8.out; go_simp
 simp only [zA,zB,zC,zD,zF]
 refine zQ 11 fun KK hKK => ?_
 have z : we.cell? ⟨O, 17 + i, none⟩ = some (.int .i64 (m : Int)) := ((HD4.out.kept0 HAd.out).dv.count Hi.out).trans (by rw [← Hm.out])
 have f : we.frozen? ⟨O, 17 + i, none⟩ = false := frozen_of_row _ _ _ _ _ (HD4.out.kept0 HAd.out).dv.blk
 go_simp
 have HD5 := hid ((HD4.out.kept0 HAd.out).setCount Hi.out ((m : Int) + 1))
 have hHz := hHeld.setCell (p := ⟨O, 17 + i, none⟩) (.inl (by simp)) (.int .i64 ((m : Int) + 1))
 refine hKK.out _ _ hHz (fun hHeld => ?_)
 clear hKK KK
 try simp only [zA,zB,zC,zD,zF]
 refine wpAnyH_done (by kernel_rfl) ?_ _
 have HA5 := hid (HA4.out.trans hHeld)
 have HB5 := hid ((hHeld.block A HAl4.out HAO.out).trans HB4.out)
 clear hHeld zb
 generalize we.setCell ⟨O, 17 + i, none⟩ (.int .i64 ((m : Int) + 1)) = w5 at *
 have HAl5 := hid (lt_of_heap HB5.out)
 obtain ⟨r5, Hr5⟩ : ∃ r5 : Rv, Hid (r5 = { r with ts := [], c := r.c.set i ((m : Int) + 1) }) := ⟨_, hid rfl⟩
 have HD5' : Hid (Dk w5 O r5 ⟨none, 0, 0⟩) := hid (by rw [Hr5.out]; exact HD5.out)
 clear HD5
 have HD5 := HD5'
 clear HD5'
 have Hl5 : Hid (r5.u.length = 8 ∧ r5.d.length = 8 ∧ r5.c.length = 8) := hid ⟨HD5.out.dv.lu, HD5.out.dv.ld, HD5.out.dv.lc⟩
 have Hcm : Hid (r5.c.getD i 0 = (m : Int) + 1) := hid (by rw [Hr5.out]; show (r.c.set i ((m : Int) + 1)).getD i 0 = _; rw [setD (by rw [Hlr.out.2.2]; exact Hi.out), if_pos rfl])
 go_upto_region 18 with fail
 have hAd : Sx r5 O w5.drew ∧ Apart [O] w5 w5.drew := ⟨⟨_, (HD5.out.kept0 ((Apart.refl [] w5).drew)).dv.blk⟩, (Apart.refl [O] w5).drew⟩
 have HDd := hid (HD5.out.kept0 ((Apart.refl [] w5).drew))
 have HAdd : Hid (Apart [] w5 w5.drew) := hid ((Apart.refl [] w5).drew)
 refine wp_region_held_drew (S := fun W => Sx r5 O W ∧ Apart [O] w5 W) (by kernel_rfl) hAd (fun hHeld => ?_)
 have Hwd : Hid (w5.drew.heap.size = w5.heap.size) := hid rfl
 generalize w5.drew = wd5 at *
 clear hAd
 refine zt 0 82 ?_
 refine zt 1 83 ?_
 refine zu 2 84 rfl (fun W hSW => by have z : W.cell? ⟨A, 1, none⟩ = some (.int .i64 (i : Int)) := (hSW.2.cell HAl5.out HAO.out).trans (zK HB5.out); go_simp <;> rfl) ?_
 refine zt 3 85 ?_
 refine zt 4 86 ?_
 refine zu 5 87 rfl (fun W hSW => by have z : W.cell? ⟨A, 1, none⟩ = some (.int .i64 (i : Int)) := (hSW.2.cell HAl5.out HAO.out).trans (zK HB5.out); go_simp <;> rfl) ?_
 refine zt 6 88 ?_
 refine zt 7 89 ?_
 simp only [zA,zB,zC,zD,zF]
 refine tk 8 90 (.pointer (some ⟨O, 17 + i, none⟩)) rfl ?_ ?_
 ·intro W hSW; have h8 := Hi8.out; go_simp
 simp only [zA,zB,zC,zD,zF]
 refine tk 9 91 (.int .i64 ((m : Int) + 1)) rfl ?_ ?_
 ·intro W hSW; obtain ⟨⟨sx, hb⟩, -⟩ := hSW; have z := cellC hb Hl5.out Hi.out; rw [Hcm.out] at z; go_simp
 simp only [zA,zB,zC,zD,zF]
 refine tk 10 92 (.agg #[.string ⟨#[]⟩, .int .i64 (i : Int), .int .i64 ((m : Int) + 1)]) rfl ?_ ?_
 ·intro W hSW; exact ex_build96b _ _ rfl rfl rfl
 simp only [zA,zB,zC,zD,zF]
 refine zQ 11 fun KK hKK => ?_
 go_simp
 have HA6 : Hid (Apart [] wd5 (wd5.alloc (.cells #[.string ⟨#[]⟩, .int .i64 (i : Int), .int .i64 ((m : Int) + 1)] 96))) := hid ((Apart.refl [] wd5).alloc _)
 have HB6 := hid (HDd.out.kept0 HA6.out)
 have HN6 := hid (Nw.one96 wd5 ⟨⟨#[]⟩, i, m + 1⟩)
 refine hKK.out _ _ ⟨⟨_, HB6.out.dv.blk⟩, hHeld.2.trans (HA6.out.mono (by simp))⟩ (fun hHeld => ?_)
 clear hKK KK
 try simp only [zA,zB,zC,zD,zF]
 refine zt 12 94 ?_
 refine zt 13 95 ?_
 simp only [zA,zB,zC,zD,zF]
 refine zQ 14 fun KK hKK => ?_
 have z := HB6.out.dv.tags
 have f : (wd5.alloc (.cells #[.string ⟨#[]⟩, .int .i64 (i : Int), .int .i64 ((m : Int) + 1)] 96)).frozen? ⟨O, 25, none⟩ = false := frozen_of_row _ _ _ _ _ HB6.out.dv.blk
 go_simp
 have HDn := hid (HB6.out.put HN6.out rfl)
 refine hKK.out _ _ ⟨⟨_, HDn.out.dv.blk⟩, hHeld.2.setCell (.inl (by simp)) _⟩ (fun hHeld => ?_)
 clear hKK KK z f
 try simp only [zA,zB,zC,zD,zF]
 refine wpAnyH_done (by kernel_rfl) ?_ _
 have HA7 := hid (HA5.out.trans hHeld.2)
 clear hHeld
 go_wp2_with fail
 go_ret
 refine ⟨rfl, HA7.out, ⟨some ⟨wd5.heap.size, 0, none⟩, 1, 1⟩, ?_⟩
 have h1 := HDn.out
 rw [Hr5.out] at h1
 show Dk _ O { r with c := r.c.set i (r.c.getD i 0 + 1), ts := [⟨⟨#[]⟩, i, (r.c.getD i 0).toNat + 1⟩] } _
 rw [Hm.out]
 exact h1
theorem rdo_long {w : World} {O : Nat} {r : Rv} {s : Sl} (h : Dk w O r s) {a b : Int} {on : Bool} {sl : Sl} (hk : r.k = 4) {i : Nat} (hi : i < 8) (ha : a = (i : Int)) {bs : List Nat} (hb : Rd w sl.p (byts bs)) (hl : bs.length = sl.n) (ok : sl.ok) (hn : bs.length > 59) : Calls Tryz.prog 40 #[.pointer (some ⟨O, 0, none⟩), .agg (actC 5 a b on sl)] w fun x w' => x = .returned (.int .i64 2) ∧ Apart [] w w' := by
 subst ha
 have h1 : ¬ ((i : Nat) : Int) < 0 := by omega
 have h2 : ¬ ((i : Nat) : Int) ≥ 8 := by omega
 have Hb := hid hb
 have Hbl := hid hl
 have Hbo := hid ok
 have hn2 : ((sl.n : Nat) : Int) > 59 := by omega
 clear hb hl ok hn
 have HD := hid h
 obtain ⟨A, HA⟩ : ∃ A, Hid (A = w.heap.size) := ⟨_, hid rfl⟩
 obtain ⟨w1, Hw1⟩ : ∃ W, Hid (W = w.alloc (.cells (actC 5 (i : Int) b on sl) 81)) := ⟨_, hid rfl⟩
 have HAp : Hid (Apart [] w w1) := hid (zM Hw1.out)
 have HBA : Hid (w1.heap[A]? = some (.cells (actC 5 (i : Int) b on sl) 81 (0, 0))) := hid (zN HA.out Hw1.out)
 have HD1 := hid (HD.out.kept0 HAp.out)
 have HT : Hid (∀ W : World, Calls Tryz.prog 49 #[.int .i64 5] W fun x w' => x = .returned (.int .i64 4) ∧ Apart [] W w') := hid (fun (W : World) => typeOf_ok W 5 (by decide) (by decide))
 have HOl := hid (lt_of_heap HD1.out.dv.blk)
 have HAl := hid (lt_of_heap HBA.out)
 have Hzk := hid (HD1.out.dv.kind)
 rw [hk] at Hzk
 clear h hk
 go_enter Tryz.func40, Tryz.ntmps40
 go_upto_region 1 with fail
 rw [← HA.out, ← Hw1.out]
 clear Hw1 HA
 refine wp_region_held_drew (S := fun W => Apart [] w1 W) (by kernel_rfl) (Apart.refl [] w1).drew fun hHeld => ?_
 generalize w1.drew = wd at *
 refine zt 0 5 ?_
 refine zt 1 6 ?_
 refine zt 2 7 ?_
 refine zu 3 8 rfl (fun W hSW => by have z : W.cell? ⟨O, 0, none⟩ = some (.int .i64 4) := (hSW.cell HOl.out (by simp)).trans Hzk.out; go_simp <;> rfl) ?_
 refine zt 4 9 ?_
 refine zu 5 10 rfl (fun W hSW => by have z : W.cell? ⟨A, 0, none⟩ = some (.int .i64 5) := (hSW.cell HAl.out (by simp)).trans (zK HBA.out); go_simp <;> rfl) ?_
 simp only [zA,zB,zC,zD,zF]
 refine zQ 6 fun KK hKK => ?_
 go_simp
 refine (HT.out wd).mono ?_
 rintro _ w2 ⟨rfl, aX⟩
 have hHx := hHeld.trans aX
 try dsimp only
 refine hKK.out _ _ hHx (fun hHeld => ?_)
 clear hKK KK
 try simp only [zA,zB,zC,zD,zF]
 refine zt 7 12 ?_
 simp only [zA,zB,zC,zD,zF]
 refine wpAnyH_done (by kernel_rfl) ?_ _
 have HA2 := hid (HAp.out.trans hHeld)
 have HD2 := hid (HD.out.kept0 HA2.out)
 have HB2 := hid (keep0 hHeld HBA.out)
 clear hHeld HBA HD1 HOl HAl HT Hzk
 have za0 : w2.cell? ⟨A, 0, none⟩ = some (.int .i64 5) := zK HB2.out
 have za1 : w2.cell? ⟨A, 1, none⟩ = some (.int .i64 (i : Int)) := zK HB2.out
 have za2 : w2.cell? ⟨A, 2, none⟩ = some (.int .i64 b) := zK HB2.out
 have za3 : w2.cell? ⟨A, 3, none⟩ = some (.bool on) := zK HB2.out
 have za4 : w2.cell? ⟨A, 4, none⟩ = some (.slice sl.p sl.n sl.c) := zK HB2.out
 go_wp2_with fail
 go_ret
 exact ⟨rfl, HA2.out⟩
theorem rdo_stamp {w : World} {O : Nat} {r : Rv} {s : Sl} (h : Dk w O r s) {a b : Int} {on : Bool} {sl : Sl} (hk : r.k = 4) {i : Nat} (hi : i < 8) (ha : a = (i : Int)) {bs : List Nat} (hb : Rd w sl.p (byts bs)) (hl : bs.length = sl.n) (ok : sl.ok) (hn : ¬ bs.length > 59) (hx : r.st ≥ 16777215) : Calls Tryz.prog 40 #[.pointer (some ⟨O, 0, none⟩), .agg (actC 5 a b on sl)] w fun x w' => x = .returned (.int .i64 92) ∧ Apart [] w w' := by
 subst ha
 have h1 : ¬ ((i : Nat) : Int) < 0 := by omega
 have h2 : ¬ ((i : Nat) : Int) ≥ 8 := by omega
 have Hb := hid hb
 have Hbl := hid hl
 have Hbo := hid ok
 have hn2 : ¬ ((sl.n : Nat) : Int) > 59 := by omega
 clear hb hl ok hn
 have HD := hid h
 obtain ⟨A, HA⟩ : ∃ A, Hid (A = w.heap.size) := ⟨_, hid rfl⟩
 obtain ⟨w1, Hw1⟩ : ∃ W, Hid (W = w.alloc (.cells (actC 5 (i : Int) b on sl) 81)) := ⟨_, hid rfl⟩
 have HAp : Hid (Apart [] w w1) := hid (zM Hw1.out)
 have HBA : Hid (w1.heap[A]? = some (.cells (actC 5 (i : Int) b on sl) 81 (0, 0))) := hid (zN HA.out Hw1.out)
 have HD1 := hid (HD.out.kept0 HAp.out)
 have HT : Hid (∀ W : World, Calls Tryz.prog 49 #[.int .i64 5] W fun x w' => x = .returned (.int .i64 4) ∧ Apart [] W w') := hid (fun (W : World) => typeOf_ok W 5 (by decide) (by decide))
 have HOl := hid (lt_of_heap HD1.out.dv.blk)
 have HAl := hid (lt_of_heap HBA.out)
 have Hzk := hid (HD1.out.dv.kind)
 rw [hk] at Hzk
 clear h hk
 go_enter Tryz.func40, Tryz.ntmps40
 go_upto_region 1 with fail
 rw [← HA.out, ← Hw1.out]
 clear Hw1 HA
 refine wp_region_held_drew (S := fun W => Apart [] w1 W) (by kernel_rfl) (Apart.refl [] w1).drew fun hHeld => ?_
 generalize w1.drew = wd at *
 refine zt 0 5 ?_
 refine zt 1 6 ?_
 refine zt 2 7 ?_
 refine zu 3 8 rfl (fun W hSW => by have z : W.cell? ⟨O, 0, none⟩ = some (.int .i64 4) := (hSW.cell HOl.out (by simp)).trans Hzk.out; go_simp <;> rfl) ?_
 refine zt 4 9 ?_
 refine zu 5 10 rfl (fun W hSW => by have z : W.cell? ⟨A, 0, none⟩ = some (.int .i64 5) := (hSW.cell HAl.out (by simp)).trans (zK HBA.out); go_simp <;> rfl) ?_
 simp only [zA,zB,zC,zD,zF]
 refine zQ 6 fun KK hKK => ?_
 go_simp
 refine (HT.out wd).mono ?_
 rintro _ w2 ⟨rfl, aX⟩
 have hHx := hHeld.trans aX
 try dsimp only
 refine hKK.out _ _ hHx (fun hHeld => ?_)
 clear hKK KK
 try simp only [zA,zB,zC,zD,zF]
 refine zt 7 12 ?_
 simp only [zA,zB,zC,zD,zF]
 refine wpAnyH_done (by kernel_rfl) ?_ _
 have HA2 := hid (HAp.out.trans hHeld)
 have HD2 := hid (HD.out.kept0 HA2.out)
 have HB2 := hid (keep0 hHeld HBA.out)
 clear hHeld HBA HD1 HOl HAl HT Hzk
 have za0 : w2.cell? ⟨A, 0, none⟩ = some (.int .i64 5) := zK HB2.out
 have za1 : w2.cell? ⟨A, 1, none⟩ = some (.int .i64 (i : Int)) := zK HB2.out
 have za2 : w2.cell? ⟨A, 2, none⟩ = some (.int .i64 b) := zK HB2.out
 have za3 : w2.cell? ⟨A, 3, none⟩ = some (.bool on) := zK HB2.out
 have za4 : w2.cell? ⟨A, 4, none⟩ = some (.slice sl.p sl.n sl.c) := zK HB2.out
 have z26 := HD2.out.dv.stamp
 go_wp2_with fail
 go_ret
 exact ⟨rfl, HA2.out⟩
theorem Dk.setRest {w : World} {O : Nat} {r r' : Rv} {s : Sl} (h : Dk w O r s) (i : Nat) (v : Value) (e : [Value.slice s.p s.n s.c, .int .i64 r.st, .int .i64 r.ac, .string r.tx].set i v = [Value.slice s.p s.n s.c, .int .i64 r'.st, .int .i64 r'.ac, .string r'.tx]) (hk : r'.k = r.k) (hu : r'.u = r.u) (hd : r'.d = r.d) (hc : r'.c = r.c) (ht : r'.ts = r.ts) : Dk (w.setCell ⟨O, 25 + i, none⟩ v) O r' s := by
 refine h.wr ((Apart.refl [O] w).setCell (.inl (by simp)) _) ?_ ht (by rw [hu]; exact h.dv.lu) (by rw [hd]; exact h.dv.ld) (by rw [hc]; exact h.dv.lc)
 rw [heap_setCell_same w O (25 + i) _ 63 _ h.dv.blk, List.setIfInBounds_toArray, dset_rest h.dv.lu h.dv.ld h.dv.lc, e]
 unfold dCells
 rw [hk, hu, hd, hc]
theorem Rd.keptN {w w' : World} {p : Option Addr} {bs : List Nat} {X : List Nat} (h : Rd w p (byts bs)) (a : Apart X w w') (hX : ∀ P o, p = some ⟨P, o, none⟩ ∧ bs ≠ [] → P ∉ X) : Rd w' p (byts bs) := by
 by_cases e : bs = []
 ·subst e; exact Rd.nil _ _
 ·exact h.kept a (fun P o hp => hX P o ⟨hp, e⟩)
theorem rdo_write {w : World} {O : Nat} {r : Rv} {s : Sl} (h : Dk w O r s) {a b : Int} {on : Bool} {sl : Sl} (hk : r.k = 4) {i : Nat} (hi : i < 8) (ha : a = (i : Int)) {bs : List Nat} (hb : Rd w sl.p (byts bs)) (hl : bs.length = sl.n) (ok : sl.ok) (hbO : ∀ P o, sl.p = some ⟨P, o, none⟩ ∧ bs ≠ [] → P ≠ O) (hn : ¬ bs.length > 59) (h0 : 0 ≤ r.st) (hx : ¬ r.st ≥ 16777215) : Calls Tryz.prog 40 #[.pointer (some ⟨O, 0, none⟩), .agg (actC 5 a b on sl)] w fun x w' => x = .returned (.int .i64 0) ∧ Apart [O] w w' ∧ ∃ s', Dk w' O { r with st := r.st + 1, ac := (i : Int), tx := strB bs } s' := by
 subst ha
 have h1 : ¬ ((i : Nat) : Int) < 0 := by omega
 have h2 : ¬ ((i : Nat) : Int) ≥ 8 := by omega
 have Hb := hid hb
 have HbO := hid hbO
 have Hbl := hid hl
 have Hbo := hid ok
 have hn2 : ¬ ((sl.n : Nat) : Int) > 59 := by omega
 obtain ⟨n, Hn⟩ : ∃ n, Hid (n = r.st) := ⟨_, hid rfl⟩
 rw [← Hn.out] at hx h0 ⊢
 have hw : wrap64 (n + 1) = n + 1 := IntWalk.wrap64_in _ (by omega)
 clear hb hl ok hn
 have HD := hid h
 obtain ⟨A, HA⟩ : ∃ A, Hid (A = w.heap.size) := ⟨_, hid rfl⟩
 obtain ⟨w1, Hw1⟩ : ∃ W, Hid (W = w.alloc (.cells (actC 5 (i : Int) b on sl) 81)) := ⟨_, hid rfl⟩
 have HAp : Hid (Apart [] w w1) := hid (zM Hw1.out)
 have HBA : Hid (w1.heap[A]? = some (.cells (actC 5 (i : Int) b on sl) 81 (0, 0))) := hid (zN HA.out Hw1.out)
 have HD1 := hid (HD.out.kept0 HAp.out)
 have HT : Hid (∀ W : World, Calls Tryz.prog 49 #[.int .i64 5] W fun x w' => x = .returned (.int .i64 4) ∧ Apart [] W w') := hid (fun (W : World) => typeOf_ok W 5 (by decide) (by decide))
 have HOl := hid (lt_of_heap HD1.out.dv.blk)
 have HAl := hid (lt_of_heap HBA.out)
 have Hzk := hid (HD1.out.dv.kind)
 rw [hk] at Hzk
 clear h hk
 go_enter Tryz.func40, Tryz.ntmps40
 go_upto_region 1 with fail
 rw [← HA.out, ← Hw1.out]
 clear Hw1 HA
 refine wp_region_held_drew (S := fun W => Apart [] w1 W) (by kernel_rfl) (Apart.refl [] w1).drew fun hHeld => ?_
 generalize w1.drew = wd at *
 refine zt 0 5 ?_
 refine zt 1 6 ?_
 refine zt 2 7 ?_
 refine zu 3 8 rfl (fun W hSW => by have z : W.cell? ⟨O, 0, none⟩ = some (.int .i64 4) := (hSW.cell HOl.out (by simp)).trans Hzk.out; go_simp <;> rfl) ?_
 refine zt 4 9 ?_
 refine zu 5 10 rfl (fun W hSW => by have z : W.cell? ⟨A, 0, none⟩ = some (.int .i64 5) := (hSW.cell HAl.out (by simp)).trans (zK HBA.out); go_simp <;> rfl) ?_
 simp only [zA,zB,zC,zD,zF]
 refine zQ 6 fun KK hKK => ?_
 go_simp
 refine (HT.out wd).mono ?_
 rintro _ w2 ⟨rfl, aX⟩
 have hHx := hHeld.trans aX
 try dsimp only
 refine hKK.out _ _ hHx (fun hHeld => ?_)
 clear hKK KK
 try simp only [zA,zB,zC,zD,zF]
 refine zt 7 12 ?_
 simp only [zA,zB,zC,zD,zF]
 refine wpAnyH_done (by kernel_rfl) ?_ _
 have HA2 := hid (HAp.out.trans hHeld)
 have HD2 := hid (HD.out.kept0 HA2.out)
 have HB2 := hid (keep0 hHeld HBA.out)
 clear hHeld HBA HD1 HOl HAl HT Hzk
 have za0 : w2.cell? ⟨A, 0, none⟩ = some (.int .i64 5) := zK HB2.out
 have za1 : w2.cell? ⟨A, 1, none⟩ = some (.int .i64 (i : Int)) := zK HB2.out
 have za2 : w2.cell? ⟨A, 2, none⟩ = some (.int .i64 b) := zK HB2.out
 have za3 : w2.cell? ⟨A, 3, none⟩ = some (.bool on) := zK HB2.out
 have za4 : w2.cell? ⟨A, 4, none⟩ = some (.slice sl.p sl.n sl.c) := zK HB2.out
 have HOA : Hid (A ≠ O) := hid (fun e => by
  have h1 := HB2.out
  rw [e, HD2.out.dv.blk] at h1
  simp at h1)
 have z26 := HD2.out.dv.stamp
 have f26 : w2.frozen? ⟨O, 26, none⟩ = false := frozen_of_row _ _ _ _ _ HD2.out.dv.blk
 rw [← Hn.out] at z26
 go_upto_region 25 with fail
 clear z26 f26 za0 za1 za2 za3 za4 hw
 have HD3 : Hid (Dk (w2.setCell ⟨O, 26, none⟩ (.int .i64 (n + 1))) O { r with st := n + 1 } s) := hid (HD2.out.setRest 1 (.int .i64 (n + 1)) rfl rfl rfl rfl rfl rfl)
 have HA3 : Hid (Apart [O] w (w2.setCell ⟨O, 26, none⟩ (.int .i64 (n + 1)))) := hid ((HA2.out.mono (by simp)).setCell (.inl (by simp)) _)
 have HB3 : Hid ((w2.setCell ⟨O, 26, none⟩ (.int .i64 (n + 1))).heap[A]? = some (.cells (actC 5 (i : Int) b on sl) 81 (0, 0))) := hid (keepB ((Apart.refl [O] w2).setCell (.inl (by simp)) _) HB2.out HOA.out)
 generalize (w2.setCell ⟨O, 26, none⟩ (.int .i64 (n + 1))) = w3 at *
 have za1 : w3.cell? ⟨A, 1, none⟩ = some (.int .i64 (i : Int)) := zK HB3.out
 have z27 := HD3.out.dv.actor
 have f27 : w3.frozen? ⟨O, 27, none⟩ = false := frozen_of_row _ _ _ _ _ HD3.out.dv.blk
 go_upto_region 26 with fail
 clear z27 f27 za1
 have HD4 : Hid (Dk (w3.setCell ⟨O, 27, none⟩ (.int .i64 (i : Int))) O { r with st := n + 1, ac := (i : Int) } s) := hid (HD3.out.setRest 2 (.int .i64 (i : Int)) rfl rfl rfl rfl rfl rfl)
 have HA4 : Hid (Apart [O] w (w3.setCell ⟨O, 27, none⟩ (.int .i64 (i : Int)))) := hid (HA3.out.setCell (.inl (by simp)) _)
 have HB4 : Hid ((w3.setCell ⟨O, 27, none⟩ (.int .i64 (i : Int))).heap[A]? = some (.cells (actC 5 (i : Int) b on sl) 81 (0, 0))) := hid (keepB ((Apart.refl [O] w3).setCell (.inl (by simp)) _) HB3.out HOA.out)
 generalize (w3.setCell ⟨O, 27, none⟩ (.int .i64 (i : Int))) = w4 at *
 have za4 : w4.cell? ⟨A, 4, none⟩ = some (.slice sl.p sl.n sl.c) := zK HB4.out
 have z28 := HD4.out.dv.text
 have f28 : w4.frozen? ⟨O, 28, none⟩ = false := frozen_of_row _ _ _ _ _ HD4.out.dv.blk
 have hcv := conv_bytes (w := w4) (Hb.out.keptN HA4.out (fun P o e hm => HbO.out P o e (List.mem_singleton.1 hm))) Hbl.out Hbo.out
 go_upto_region 27 with fail
 clear z28 f28 za4 hcv
 have HD5 : Hid (Dk (w4.setCell ⟨O, 28, none⟩ (.string (strB bs))) O { r with st := n + 1, ac := (i : Int), tx := strB bs } s) := hid (HD4.out.setRest 3 (.string (strB bs)) rfl rfl rfl rfl rfl rfl)
 have HA5 : Hid (Apart [O] w (w4.setCell ⟨O, 28, none⟩ (.string (strB bs)))) := hid (HA4.out.setCell (.inl (by simp)) _)
 go_wp2_with fail
 go_ret
 exact ⟨rfl, HA5.out, s, HD5.out⟩
end Go.Proofs.YtdbeeikjngnnnaaGreat.ty
