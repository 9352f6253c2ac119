import Derived.Test.YtdbeeikjngnnnaaGreatC10
import Derived.Test.YtdbeeikjngnnnaaGreatC14
namespace Go.Proofs.YtdbeeikjngnnnaaGreat.ty
open Go.ChangeShapes Go.WideShapes Go.ChangeAt Go.RowKit
set_option linter.unusedVariables false
set_option linter.unusedSimpArgs false
set_option maxRecDepth 100000
set_option maxHeartbeats 8000000
theorem rwI_bd {mask wd : Nat} {us : List Nat} (hu : ∀ x ∈ us, x < 256) : ∀ i, (∀ x ∈ (rwI mask wd i us).1, 0 ≤ x ∧ x < 2 ^ (8 * wd)) ∧ (∀ x ∈ (rwI mask wd i us).2, x < 256)
 | 0 => ⟨by simp [rwI], hu⟩
 | i + 1 => by
  obtain ⟨h1, h2⟩ := rwI_bd (mask := mask) (wd := wd) hu i
  unfold rwI
  have hp : (0 : Int) < 2 ^ (8 * wd) := by
   have : (0 : Nat) < 2 ^ (8 * wd) := Nat.pow_pos (by decide)
   exact_mod_cast this
  split
  ·refine ⟨fun x hx => ?_, fun x hx => h2 x (List.mem_of_mem_drop hx)⟩
   rcases List.mem_append.1 hx with hx | hx
   ·exact h1 x hx
   ·simp at hx
    subst hx
    refine ⟨by omega, ?_⟩
    have h3 := leV_lt (l := (rwI mask wd i us).2.take wd) (fun x hx => h2 x (List.mem_of_mem_take hx))
    have h4 : 2 ^ (8 * ((rwI mask wd i us).2.take wd).length) ≤ 2 ^ (8 * wd) := Nat.pow_le_pow_right (by decide) (by rw [List.length_take]; omega)
    have h5 : leV ((rwI mask wd i us).2.take wd) < 2 ^ (8 * wd) := Nat.lt_of_lt_of_le h3 h4
    exact_mod_cast h5
  ·refine ⟨fun x hx => ?_, h2⟩
   rcases List.mem_append.1 hx with hx | hx
   ·exact h1 x hx
   ·simp at hx
    subst hx
    exact ⟨by omega, hp⟩
theorem mix_step {a b : List Int} (ha : a.length = 8) (hb : b.length = 8) (i : Nat) (hi : i < 8) : (a.take i ++ b.drop i).set i (a.getD i 0) = a.take (i + 1) ++ b.drop (i + 1) := by
 have h1 : (a.take i).length = i := by rw [List.length_take]; omega
 rw [List.set_append_right _ _ (by omega), h1, Nat.sub_self, List.drop_eq_getElem_cons (by omega), List.set_cons_zero, List.take_succ_eq_append_getElem (by omega), List.append_assoc]
 simp [ha, hi]
theorem mix_len {a b : List Int} (ha : a.length = 8) (hb : b.length = 8) (i : Nat) (hi : i ≤ 8) : (a.take i ++ b.drop i).length = 8 := by simp; omega
def cuR (g : List Int) : List Int := g.map fun n => n % 16777216
def cdR (g : List Int) : List Int := g.map fun n => n / 16777216
theorem getD_map {g : List Int} {f : Int → Int} {i : Nat} (h : i < g.length) : (g.map f).getD i 0 = f (g.getD i 0) := by
 simp [h]
theorem cread_ok {wB w : World} {R : Nat} {s : Sl} {us : List Nat} (h : Rr wB w R s us) (hl : us.length ≤ 1000000) : Calls Tryz.prog 103 #[.agg (rv (zr ++ zr)).toArray, .pointer (some ⟨R, 0, none⟩)] w fun r w' => r = .returned (.iface 101 (.agg (rv (cuR (rowR (us.drop 1) 6).1 ++ cdR (rowR (us.drop 1) 6).1)).toArray)) ∧ Apart [R] w w' := by
 have HWB : Hid (wB.heap.size ≤ w.heap.size) := hid h.ap.size
 have HR := hid h
 have Hl := hid hl
 have hRl := lt_of_heap h.blk
 clear h hl
 obtain ⟨r1, Hr1⟩ : ∃ r, Hid (r = rowR (us.drop 1) 6) := ⟨_, hid rfl⟩
 rw [← Hr1.out]
 have Hgl0 : Hid (r1.1.length = 8) := hid (by rw [Hr1.out]; exact rwI_len _ _ _ _)
 have Hbd0 : Hid (∀ x ∈ r1.1, 0 ≤ x ∧ x < 2 ^ (8 * 6)) := hid (by rw [Hr1.out]; exact (rwI_bd (fun x hx => HR.out.u8 x (List.mem_of_mem_drop (List.mem_of_mem_drop hx))) 8).1)
 obtain ⟨g, Hg⟩ : ∃ g, Hid (g = r1.1) := ⟨_, hid rfl⟩
 rw [← Hg.out] at Hgl0 Hbd0 ⊢
 go_enter Tryz.func103, Tryz.ntmps103
 go_upto_region 1 with fail
 obtain ⟨X, HXX⟩ : ∃ X, Hid (X = w.heap.size) := ⟨_, rfl⟩
 obtain ⟨w1, hw1⟩ : ∃ W, W = w.alloc (.cells (rv (zr ++ zr)).toArray 101) := ⟨_, rfl⟩
 have HSw1 : Hid (Apart [] w w1) := hid (zM hw1)
 have HBX : Hid (w1.heap[X]? = some (.cells (rv (zr ++ zr)).toArray 101 (0, 0))) := hid (zN HXX.out hw1)
 have HLX : Hid (w.heap.size ≤ X) := by unfold Hid; rw [HXX.out]; exact Nat.le_refl _
 have HN : Hid (X ≠ R) := hid (by have := HLX.out; omega)
 rw [← hw1, ← HXX.out]
 clear hw1 HXX hRl
 have HC := hid (next_ok (HR.out.kept0 HSw1.out) Hl.out 1 (by omega))
 go_upto_region 2 with (go_at_call 108; refine HC.out.mono ?_; rintro _ w2 ⟨a2, rfl, p2, b2, q2, s2⟩; have HR2 := hid q2; have HS2 := hid s2; clear p2 q2 s2 HC)
 have HBX2 := hid (keepB HS2.out HBX.out HN.out)
 have HC := hid (row_ok HR2.out (by have := Hl.out; rw [List.length_drop]; omega) 6 (by omega))
 rw [← Hr1.out, ← Hg.out] at HC
 clear HBX HR
 go_wp2_with (go_at_call 109; refine HC.out.mono ?_; rintro _ w3 ⟨rfl, ⟨b3, q3⟩, s3⟩; have HS3 := hid s3; have HBX3 := hid (keepB HS3.out HBX2.out HN.out); clear q3 s3 HC)
 have HA3 : Hid (Apart [R] w w3) := hid (((HSw1.out.mono (by simp)).trans HS2.out).trans HS3.out)
 clear HBX2 HS3 HS2 HSw1 HR2
 go_loopw [11] (fun v wt => ∃ i : Nat, v = .int .i64 (i : Nat) ∧ i ≤ 8 ∧ Hid (wt.heap[X]? = some (.cells (rv (((cuR g).take i ++ zr.drop i) ++ ((cdR g).take i ++ zr.drop i))).toArray 101 (0, 0))) ∧ Hid (Apart [R] w wt)) (fun v _ => 8 - (intOf v).toNat)
 case atStart => exact ⟨0, rfl, Nat.zero_le _, HBX3, HA3⟩
 case round =>
  clear HBX3 HA3
  obtain ⟨i, rfl, hi, HBX, HA⟩ := hrel
  generalize wr = wt at *
  have Hcu : Hid ((cuR g).length = 8) := hid (by simp [cuR, Hgl0.out])
  have Hcd : Hid ((cdR g).length = 8) := hid (by simp [cdR, Hgl0.out])
  by_cases hlt : i < 8
  ·have hlti : ((i : Nat) : Int) < 8 := by omega
   have hlt0 : (0 : Int) ≤ ((i : Nat) : Int) ∧ ((i : Nat) : Int) < 8 := by omega
   have hri := fun (wx : World) => run_idx (b := g) i Hgl0.out hlt wx
   have Hx : Hid (0 ≤ g.getD i 0 ∧ g.getD i 0 < 2 ^ (8 * 6)) := hid (by
    have hm : g.getD i 0 ∈ g := by
     rw [List.getD_eq_getElem?_getD, List.getElem?_eq_getElem (by rw [Hgl0.out]; exact hlt)]
     exact List.getElem_mem _
    exact Hbd0.out _ hm)
   obtain ⟨n, Hn⟩ : ∃ n : Nat, Hid (g.getD i 0 = (n : Int)) := ⟨(g.getD i 0).toNat, hid (by have := Hx.out; omega)⟩
   rw [Hn.out] at hri
   have hn48 : n < 281474976710656 := by have h1 := Hx.out; rw [Hn.out] at h1; omega
   have Hand : Hid (bits .and .i64 (n : Int) 16777215 = ((n % 16777216 : Nat) : Int)) := hid (by
    have := i64_and_nat n 16777215 (by omega) (by omega)
    have e : n &&& 16777215 = n % 16777216 := Nat.and_two_pow_sub_one_eq_mod n 24
    rw [e] at this
    exact this)
   have Hu1 : Hid ((cuR g).getD i 0 = ((n % 16777216 : Nat) : Int)) := hid (by rw [cuR, getD_map (by rw [Hgl0.out]; exact hlt), Hn.out]; rfl)
   have Hd1 : Hid ((cdR g).getD i 0 = ((n / 16777216 : Nat) : Int)) := hid (by rw [cdR, getD_map (by rw [Hgl0.out]; exact hlt), Hn.out]; rfl)
   have z1 := cell20 HBX.out i (by rw [mix_len Hcu.out rfl i hi]; exact hlt)
   have z2 := cell28 (mix_len Hcu.out rfl i hi) HBX.out i (by rw [mix_len Hcd.out rfl i hi]; exact hlt)
   have f1 := frozen_of_row _ _ i _ _ HBX.out
   have f2 := frozen_of_row _ _ (8 + i) _ _ HBX.out
   go_wp2_with fail
   rw [Hand.out]
   refine ⟨⟨i + 1, by go_num, by omega, ?_, ?_⟩, by simp [intOf]; omega⟩
   ·unfold Hid
    have e1 := heap_setCell_same wt X i _ 101 (.int .i64 ((n % 16777216 : Nat) : Int)) HBX.out
    rw [heap_setCell_same _ X (8 + i) _ 101 _ e1]
    have ed : ((n : Int) / 16777216) = ((n / 16777216 : Nat) : Int) := by rw [Int.natCast_ediv]; rfl
    have hA : ((cuR g).take i ++ zr.drop i).length = 8 := mix_len Hcu.out rfl i hi
    rw [ed, List.setIfInBounds_toArray, List.setIfInBounds_toArray, rv_set, rv_set, List.set_append_left _ _ (by rw [hA]; exact hlt), List.set_append_right _ _ (by rw [List.length_set, hA]; omega), List.length_set, hA, show 8 + i - 8 = i from by omega, ← Hu1.out, ← Hd1.out, mix_step Hcu.out rfl i hlt, mix_step Hcd.out rfl i hlt]
   ·exact hid ((HA.out.setCell (p := ⟨X, i, none⟩) (.inr HLX.out) _).setCell (p := ⟨X, 8 + i, none⟩) (.inr HLX.out) _)
  ·have hlti : ¬ ((i : Nat) : Int) < 8 := by omega
   obtain rfl : i = 8 := by omega
   have HBX5 : Hid (wt.heap[X]? = some (.cells (rv (cuR g ++ cdR g)).toArray 101 (0, 0))) := hid (by
    have h1 := HBX.out
    rw [List.take_of_length_le (by rw [Hcu.out]; exact Nat.le_refl _), List.take_of_length_le (by rw [Hcd.out]; exact Nat.le_refl _), show zr.drop 8 = [] from rfl, List.append_nil, List.append_nil] at h1
    exact h1)
   go_wp2_with (refine wpList_load_row rfl 101 _ rfl X rfl 101 _ (0, 0) _ HBX5.out Tryz.underlying101 rfl (by rw [size88]; simp [rv_len, Hcu.out, Hcd.out]) ?_)
   go_ret
   exact ⟨rfl, HA.out⟩
theorem row_ext {a b : List Int} (ha : a.length = 8) (hb : b.length = 8) (h : ∀ i, i < 8 → a.getD i 0 = b.getD i 0) : a = b := by
 apply List.ext_getElem?
 intro i
 rcases Nat.lt_or_ge i 8 with hi | hi
 ·have := h i hi
  rw [List.getD_eq_getElem?_getD, List.getD_eq_getElem?_getD] at this
  rw [List.getElem?_eq_getElem (by omega), List.getElem?_eq_getElem (by omega)] at this ⊢
  simp at this
  rw [this]
 ·rw [List.getElem?_eq_none (by omega), List.getElem?_eq_none (by omega)]
theorem gr_at {a b : List Int} (ha : a.length = 8) (hb : b.length = 8) (i : Nat) (hi : i < 8) : (gr a b).getD i 0 = max (a.getD i 0) (b.getD i 0) := by
 unfold gr
 rw [List.getD_eq_getElem?_getD, List.getElem?_zipWith, List.getD_eq_getElem?_getD, List.getD_eq_getElem?_getD, List.getElem?_eq_getElem (by omega), List.getElem?_eq_getElem (by omega)]
 rfl
theorem mt_len (a ca b cb : List Int) : (mt a ca b cb).length = 8 := mtI_len _ _ _ _ _
theorem mt_at (a ca b cb : List Int) (i : Nat) (hi : i < 8) : (mt a ca b cb).getD i 0 = max (st (a.getD i 0) (b.getD i 0) (cb.getD i 0)) (st (b.getD i 0) (a.getD i 0) (ca.getD i 0)) := by
 unfold mt mtI
 rw [List.getD_eq_getElem?_getD, List.getElem?_map, List.getElem?_range hi]
 simp [hi, mtA]
theorem zrD (i : Nat) : zr.getD i 0 = 0 := by
 have e : zr = List.replicate 8 0 := rfl
 rw [e, List.getD_eq_getElem?_getD, List.getElem?_replicate]
 split <;> simp
def Wi (a c : List Int) : Prop := a.length = 8 ∧ c.length = 8 ∧ ∀ i, i < 8 → 0 ≤ a.getD i 0 ∧ a.getD i 0 ≤ c.getD i 0
theorem Wi.of_gr {a c : List Int} (ha : a.length = 8) (hc : c.length = 8) (h0 : ∀ i, i < 8 → 0 ≤ a.getD i 0) (h : gr a c = c) : Wi a c := ⟨ha, hc, fun i hi => by
 have h1 := gr_at ha hc i hi
 rw [h] at h1
 have := h0 i hi
 omega⟩
theorem Wi.zr {c : List Int} (hc : c.length = 8) (h0 : ∀ i, i < 8 → 0 ≤ c.getD i 0) : Wi ty.zr c := ⟨rfl, hc, fun i hi => by rw [zrD]; exact ⟨Int.le_refl _, h0 i hi⟩⟩
theorem gr_idem {a : List Int} (ha : a.length = 8) : gr a a = a := by
 refine row_ext (gr_len ha ha) ha fun i hi => ?_
 rw [gr_at ha ha i hi]; omega
def m1 (t c o r : Int) : Int := max (st t o r) (st o t c)
theorem m1_eq {t c o r : Int} (h0 : 0 ≤ t) (h1 : t ≤ c) (h2 : 0 ≤ o) (h3 : o ≤ r) : m1 t c o r = if t = o then t else if r < t then t else if c < o then o else 0 := by
 unfold m1 st
 by_cases e : t = o
 ·subst e; simp
 ·simp only [e, false_or, if_false, show ¬ o = t from fun h => e h.symm]
  by_cases a : r < t
  ·have b : ¬ c < o := by omega
   simp only [a, b, if_true, if_false]; omega
  ·by_cases b : c < o
   ·simp only [a, b, if_true, if_false]; omega
   ·simp only [a, b, if_false]; rfl
theorem m1_bd {t c o r : Int} (h0 : 0 ≤ t) (h1 : t ≤ c) (h2 : 0 ≤ o) (h3 : o ≤ r) : 0 ≤ m1 t c o r ∧ m1 t c o r ≤ max c r := by
 rw [m1_eq h0 h1 h2 h3]
 split
 ·omega
 split
 ·omega
 split <;> omega
theorem mt_zz (c d : List Int) : mt zr c zr d = zr := by
 refine row_ext (mt_len _ _ _ _) rfl fun i hi => ?_
 rw [mt_at _ _ _ _ i hi]
 unfold st
 simp
theorem mt_wi {a c b d : List Int} (h : Wi a c) (k : Wi b d) : Wi (mt a c b d) (gr c d) := ⟨mt_len _ _ _ _, gr_len h.2.1 k.2.1, fun i hi => by
 have h1 := h.2.2 i hi
 have h2 := k.2.2 i hi
 rw [mt_at _ _ _ _ i hi, gr_at h.2.1 k.2.1 i hi]
 exact m1_bd h1.1 h1.2 h2.1 h2.2⟩
def tg : List En → ByteArray → List Int
 | [], _ => zr
 | x :: r, e => if x.e = e then x.t else tg r e
def entE (m : List En) (e : ByteArray) : List Int := match m with
 | [] => zr
 | x :: _ => if x.e = e then x.t else zr
def resE (m : List En) (e : ByteArray) : List En := match m with
 | [] => []
 | x :: r => if x.e = e then r else x :: r
theorem resE_cons (x : En) (r : List En) (l : ByteArray) : resE (x :: r) l = if x.e = l then r else x :: r := rfl
theorem entE_cons (x : En) (r : List En) (l : ByteArray) : entE (x :: r) l = if x.e = l then x.t else zr := rfl
def mgF (c d : List Int) : Nat → List En → List En → List En
 | 0, _, _ => []
 | n + 1, m, t => if m.length + t.length = 0 then [] else
   (if mt (entE m (leaE m t)) c (entE t (leaE m t)) d = zr then [] else [⟨leaE m t, mt (entE m (leaE m t)) c (entE t (leaE m t)) d⟩]) ++ mgF c d n (resE m (leaE m t)) (resE t (leaE m t))
theorem mgF_nil (c d : List Int) (n : Nat) : mgF c d n [] [] = [] := by
 cases n with
 | zero => rfl
 | succ n => simp [mgF]
def Lb (m : List En) (l : ByteArray) : Prop := ∀ x ∈ m, bl x.e l = false
theorem Lb.head {x : En} {r : List En} {l : ByteArray} (h : So (x :: r)) (hx : bl x.e l = false) : Lb (x :: r) l := by
 intro y hy
 rcases List.mem_cons.1 hy with rfl | hy
 ·exact hx
 ·have h1 := (List.pairwise_cons.1 h).1 y hy
  cases h2 : bl y.e l
  ·rfl
  ·have := bl_trans h1 h2
   rw [hx] at this; cases this
theorem min_l (a b : ByteArray) : bl a (Lib.minS a b) = false ∧ bl b (Lib.minS a b) = false := by
 unfold Lib.minS
 by_cases h1 : a.data.toList < b.data.toList
 ·simp only [h1, true_or, if_true]
  refine ⟨bl_irrefl a, ?_⟩
  cases h2 : bl b a
  ·rfl
  ·have := bl_trans (show bl a b = true by unfold bl; simp [h1]) h2
   rw [bl_irrefl] at this; cases this
 ·by_cases h2 : a.data.toList = b.data.toList
  ·have e := ba_inj h2
   subst e
   simp only [or_true, if_true]
   exact ⟨bl_irrefl a, bl_irrefl a⟩
  ·simp only [h1, h2, or_self, if_false]
   exact ⟨by unfold bl; simp [h1], bl_irrefl b⟩
theorem min_or (a b : ByteArray) : Lib.minS a b = a ∨ Lib.minS a b = b := by
 unfold Lib.minS
 split
 ·exact .inl rfl
 ·exact .inr rfl
theorem lea_lb {m t : List En} (hm : So m) (ht : So t) : Lb m (leaE m t) ∧ Lb t (leaE m t) := by
 cases m with
 | nil => cases t with
  | nil => exact ⟨fun x hx => by simp at hx, fun x hx => by simp at hx⟩
  | cons y t => exact ⟨fun x hx => by simp at hx, Lb.head ht (bl_irrefl _)⟩
 | cons x m => cases t with
  | nil => exact ⟨Lb.head hm (bl_irrefl _), fun x hx => by simp at hx⟩
  | cons y t => exact ⟨Lb.head hm (min_l _ _).1, Lb.head ht (min_l _ _).2⟩
theorem lea_some {m t : List En} (h : ¬ m.length + t.length = 0) : (∃ x r, m = x :: r ∧ x.e = leaE m t) ∨ (∃ x r, t = x :: r ∧ x.e = leaE m t) := by
 cases m with
 | nil => cases t with
  | nil => exact absurd rfl h
  | cons y t => exact .inr ⟨y, t, rfl, rfl⟩
 | cons x m => cases t with
  | nil => exact .inl ⟨x, m, rfl, rfl⟩
  | cons y t =>
   rcases min_or x.e y.e with e | e
   ·exact .inl ⟨x, m, rfl, e.symm⟩
   ·exact .inr ⟨y, t, rfl, e.symm⟩
theorem res_len (m : List En) (l : ByteArray) : (resE m l).length ≤ m.length := by
 cases m with
 | nil => exact Nat.le_refl _
 | cons x r => rw [resE_cons]; split <;> simp
theorem res_lt {x : En} {r : List En} {l : ByteArray} (h : x.e = l) : (resE (x :: r) l).length < (x :: r).length := by
 simp [resE, h]
theorem res_less {m t : List En} (h : ¬ m.length + t.length = 0) : (resE m (leaE m t)).length + (resE t (leaE m t)).length < m.length + t.length := by
 have h1 := res_len m (leaE m t)
 have h2 := res_len t (leaE m t)
 rcases lea_some h with ⟨x, r, e, hx⟩ | ⟨x, r, e, hx⟩
 ·have h3 := res_lt (r := r) hx
  rw [← e] at h3
  omega
 ·have h3 := res_lt (r := r) hx
  rw [← e] at h3
  omega
theorem res_so {m : List En} (h : So m) (l : ByteArray) : So (resE m l) := by
 cases m with
 | nil => exact h
 | cons x r =>
  rw [resE_cons]
  split
  ·exact (List.pairwise_cons.1 h).2
  ·exact h
theorem res_mem {m : List En} {l : ByteArray} {x : En} (h : x ∈ resE m l) : x ∈ m := by
 cases m with
 | nil => exact h
 | cons y r =>
  rw [resE_cons] at h
  split at h
  ·exact List.mem_cons_of_mem _ h
  ·exact h
theorem res_gt {m : List En} {l : ByteArray} (h : So m) (hb : Lb m l) : ∀ x ∈ resE m l, bl l x.e = true := by
 cases m with
 | nil => intro x hx; simp [resE] at hx
 | cons y r =>
  intro x hx
  rw [resE_cons] at hx
  split at hx
  ·rename_i e
   rw [← e]
   exact (List.pairwise_cons.1 h).1 x hx
  ·rename_i e
   have h1 : bl l y.e = true := by
    cases h2 : bl l y.e
    ·exact absurd (bl_total (hb y (by simp)) h2) e
    ·rfl
   rcases List.mem_cons.1 hx with rfl | hx
   ·exact h1
   ·exact bl_trans h1 ((List.pairwise_cons.1 h).1 x hx)
theorem tg_gt {m : List En} {l : ByteArray} (h : ∀ x ∈ m, bl l x.e = true) : tg m l = zr := by
 induction m with
 | nil => rfl
 | cons x r ih =>
  have h1 := h x (by simp)
  have hne : ¬ x.e = l := by intro e; rw [e, bl_irrefl] at h1; cases h1
  simp only [tg, hne, if_false]
  exact ih fun y hy => h y (List.mem_cons_of_mem _ hy)
theorem tg_lea {m : List En} {l : ByteArray} (h : So m) (hb : Lb m l) : tg m l = entE m l := by
 cases m with
 | nil => rfl
 | cons x r =>
  rw [tg, entE_cons]
  by_cases e : x.e = l
  ·simp [e]
  ·simp only [e, if_false]
   have := res_gt h hb
   rw [resE_cons] at this
   simp only [e, if_false] at this
   exact tg_gt fun y hy => this y (List.mem_cons_of_mem _ hy)
theorem tg_res {m : List En} {l e : ByteArray} (hn : e ≠ l) : tg (resE m l) e = tg m e := by
 cases m with
 | nil => rfl
 | cons x r =>
  rw [resE_cons]
  by_cases h : x.e = l
  ·simp only [h, if_true]
   have : ¬ x.e = e := fun k => hn (k.symm.trans h)
   simp [tg, this]
  ·simp only [h, if_false]
theorem mgF_tg (c d : List Int) (e : ByteArray) : ∀ (n : Nat) {m t : List En}, So m → So t → m.length + t.length ≤ n → tg (mgF c d n m t) e = mt (tg m e) c (tg t e) d
 | 0, m, t, hm, ht, hn => by
  have h1 : m = [] := List.eq_nil_of_length_eq_zero (by omega)
  have h2 : t = [] := List.eq_nil_of_length_eq_zero (by omega)
  subst h1; subst h2
  exact (mt_zz c d).symm
 | n + 1, m, t, hm, ht, hn => by
  by_cases h0 : m.length + t.length = 0
  ·have h1 : m = [] := List.eq_nil_of_length_eq_zero (by omega)
   have h2 : t = [] := List.eq_nil_of_length_eq_zero (by omega)
   subst h1; subst h2
   rw [mgF_nil]
   exact (mt_zz c d).symm
  ·have hl := res_less h0
   obtain ⟨b1, b2⟩ := lea_lb hm ht
   have ih := mgF_tg c d e n (res_so hm (leaE m t)) (res_so ht (leaE m t)) (by omega)
   rw [mgF, if_neg h0]
   by_cases he : e = leaE m t
   ·rw [← he] at b1 b2 ih ⊢
    have g1 := tg_lea hm b1
    have g2 := tg_lea ht b2
    rw [tg_gt (res_gt hm b1), tg_gt (res_gt ht b2), mt_zz] at ih
    rw [g1, g2]
    split
    ·rename_i hz
     rw [List.nil_append, ih, hz]
    ·rw [List.singleton_append, tg, if_pos rfl]
   ·rw [tg_res he, tg_res he] at ih
    split
    ·rw [List.nil_append, ih]
    ·rw [List.singleton_append, tg, if_neg (fun k => he k.symm), ih]
theorem mgF_mem (c d : List Int) : ∀ (n : Nat) {m t : List En} {z : En}, z ∈ mgF c d n m t → (∃ x ∈ m, x.e = z.e) ∨ (∃ x ∈ t, x.e = z.e)
 | 0, m, t, z, h => by simp [mgF] at h
 | n + 1, m, t, z, h => by
  rw [mgF] at h
  split at h
  ·simp at h
  ·rename_i h0
   rcases List.mem_append.1 h with h | h
   ·split at h
    ·simp at h
    ·rw [List.mem_singleton] at h
     rcases lea_some h0 with ⟨x, r, e, hx⟩ | ⟨x, r, e, hx⟩
     ·exact .inl ⟨x, by rw [e]; simp, by rw [h]; exact hx⟩
     ·exact .inr ⟨x, by rw [e]; simp, by rw [h]; exact hx⟩
   ·rcases mgF_mem c d n h with ⟨x, hx, e⟩ | ⟨x, hx, e⟩
    ·exact .inl ⟨x, res_mem hx, e⟩
    ·exact .inr ⟨x, res_mem hx, e⟩
theorem mgF_so (c d : List Int) : ∀ (n : Nat) {m t : List En}, So m → So t → So (mgF c d n m t)
 | 0, m, t, hm, ht => List.Pairwise.nil
 | n + 1, m, t, hm, ht => by
  rw [mgF]
  split
  ·exact List.Pairwise.nil
  ·obtain ⟨b1, b2⟩ := lea_lb hm ht
   have ih := mgF_so c d n (res_so hm (leaE m t)) (res_so ht (leaE m t))
   split
   ·exact ih
   ·refine List.pairwise_cons.2 ⟨fun z hz => ?_, ih⟩
    rcases mgF_mem c d n hz with ⟨x, hx, e⟩ | ⟨x, hx, e⟩
    ·rw [← e]; exact res_gt hm b1 x hx
    ·rw [← e]; exact res_gt ht b2 x hx
theorem mgF_nz (c d : List Int) : ∀ (n : Nat) {m t : List En} {z : En}, z ∈ mgF c d n m t → z.t ≠ zr
 | 0, m, t, z, h => by simp [mgF] at h
 | n + 1, m, t, z, h => by
  rw [mgF] at h
  split at h
  ·simp at h
  ·rcases List.mem_append.1 h with h | h
   ·split at h
    ·simp at h
    ·rename_i hz
     rw [List.mem_singleton] at h
     rw [h]; exact hz
   ·exact mgF_nz c d n h
theorem mgF_len (c d : List Int) : ∀ (n : Nat) (m t : List En), (mgF c d n m t).length ≤ m.length + t.length
 | 0, m, t => by simp [mgF]
 | n + 1, m, t => by
  rw [mgF]
  split
  ·simp
  ·rename_i h0
   have h1 := res_less h0
   have h2 := mgF_len c d n (resE m (leaE m t)) (resE t (leaE m t))
   rw [List.length_append]
   split <;> simp only [List.length_nil, List.length_singleton] <;> omega
theorem tg_mem {es : List En} (h : So es) {x : En} (hx : x ∈ es) : tg es x.e = x.t := by
 induction es with
 | nil => simp at hx
 | cons y r ih =>
  unfold tg
  rcases List.mem_cons.1 hx with rfl | hx
  ·simp
  ·have h1 := (List.pairwise_cons.1 h).1 x hx
   have hne : ¬ y.e = x.e := by intro e; rw [e, bl_irrefl] at h1; cases h1
   simp only [hne, if_false]
   exact ih (List.pairwise_cons.1 h).2 hx
theorem tg_or (es : List En) (e : ByteArray) : tg es e = zr ∨ ∃ x ∈ es, x.e = e ∧ tg es e = x.t := by
 induction es with
 | nil => exact .inl rfl
 | cons y r ih =>
  unfold tg
  by_cases h : y.e = e
  ·exact .inr ⟨y, by simp, h, by simp [h]⟩
  ·simp only [h, if_false]
   rcases ih with ih | ⟨x, hx, e1, e2⟩
   ·exact .inl ih
   ·exact .inr ⟨x, List.mem_cons_of_mem _ hx, e1, e2⟩
def mgE (c d : List Int) (m t : List En) : List En := mgF c d (m.length + t.length) m t
structure Gs (c : List Int) (es : List En) : Prop where
 so : So es
 nz : ∀ x ∈ es, x.t ≠ zr
 wi : ∀ x ∈ es, Wi x.t c
 len : c.length = 8
 ge : ∀ i, i < 8 → 0 ≤ c.getD i 0
theorem Gs.tg {c : List Int} {es : List En} (h : Gs c es) (e : ByteArray) : Wi (ty.tg es e) c := by
 rcases tg_or es e with h1 | ⟨x, hx, -, h1⟩
 ·rw [h1]; exact Wi.zr h.len h.ge
 ·rw [h1]; exact h.wi x hx
theorem mgE_tg {c d : List Int} {m t : List En} (h : Gs c m) (k : Gs d t) (e : ByteArray) : tg (mgE c d m t) e = mt (tg m e) c (tg t e) d := mgF_tg c d e _ h.so k.so (Nat.le_refl _)
theorem mgE_gs {c d : List Int} {m t : List En} (h : Gs c m) (k : Gs d t) : Gs (gr c d) (mgE c d m t) := by
 have hs := mgF_so c d (m.length + t.length) h.so k.so
 refine ⟨hs, fun x hx => mgF_nz c d _ hx, fun x hx => ?_, gr_len h.len k.len, fun i hi => ?_⟩
 ·have e1 : ty.tg (mgE c d m t) x.e = x.t := tg_mem hs hx
  rw [mgE_tg h k] at e1
  rw [← e1]
  exact mt_wi (h.tg _) (k.tg _)
 ·have h1 := h.ge i hi
  rw [gr_at h.len k.len i hi]
  omega
theorem Gs.new : Gs zr [] := ⟨List.Pairwise.nil, by simp, by simp, rfl, fun i _ => by rw [zrD]; exact Int.le_refl _⟩
theorem mgE_len (c d : List Int) (m t : List En) : (mgE c d m t).length ≤ m.length + t.length := mgF_len c d _ m t
theorem mgE_size {c d : List Int} {m t : List En} {n : Nat} (h : ∀ x ∈ m, x.e.size ≤ n) (k : ∀ x ∈ t, x.e.size ≤ n) : ∀ x ∈ mgE c d m t, x.e.size ≤ n := by
 intro x hx
 rcases mgF_mem c d _ hx with ⟨y, hy, e⟩ | ⟨y, hy, e⟩
 ·rw [← e]; exact h y hy
 ·rw [← e]; exact k y hy
theorem results_row_tmp {P : Program} {fn : Func} {p q : Tmp} {ty : TypeId} (h : fn.results = #[.cell p ty, .tmp q]) (tmps : Array Value) (w : World) (g : Nat) (t : TypeId) (cs : Array Value) (fr : Nat × Nat) (d : TypeDesc) (v : Value)
  (hp : tmps.getD p undef = .pointer (some ⟨g, 0, none⟩)) (hq : tmps.getD q undef = v) (hg : w.heap[g]? = some (.cells cs t fr))
  (hu : P.underlying ty = some d) (hd : (match d with | .struct _ | .array _ _ => true | _ => false) = true) (hi : (P.info? ty).map (·.size) = some cs.size) :
  (results fn tmps).run P w = .ok (.tuple #[.agg cs, v]) w := by
 have hp' : tmps[p]?.getD undef = .pointer (some ⟨g, 0, none⟩) := by simpa using hp
 have hq' : tmps[q]?.getD undef = v := by simpa using hq
 simp [results, h, hp', hq', asAddr, run_loadVar_row w g t ty cs fr d hg hu hd hi, Sem.run_bind, Result.andThen]
theorem split_nil {w : World} {s : Sl} (hn : s.n = 0) (e : ByteArray) : Calls Tryz.prog 67 #[.slice s.p s.n s.c, .string e] w fun r w' => r = .returned (.tuple #[.agg (rv zr).toArray, .slice s.p s.n s.c]) ∧ Apart [] w w' := by
 rw [hn]
 go_enter Tryz.func67, Tryz.ntmps67
 go_wp2_with (refine wpList_store_row rfl 99 _ _ rfl w.heap.size (rv zr).toArray rfl rfl 99 _ (heap_alloc_new w _) (by rw [size86]; rfl) (by rfl) (all_oneCell_toArray (rv_one _)) ?_)
 refine bodyPost_ret (results_row_tmp rfl _ _ w.heap.size 99 (rv zr).toArray _ _ _ rfl rfl (setRow_heap _ _ _ _ _ _ (heap_alloc_new w _)) Tryz.underlying99 rfl (by rw [size86]; rfl)) rfl ?_
 exact ⟨rfl, put_apart⟩
theorem split_ne {w : World} {s : Sl} {x : En} {r : List En} (h : Es w s (x :: r)) (hl : s.n ≤ 1000000) (e : ByteArray) (he : x.e ≠ e) : Calls Tryz.prog 67 #[.slice s.p s.n s.c, .string e] w fun r w' => r = .returned (.tuple #[.agg (rv zr).toArray, .slice s.p s.n s.c]) ∧ Apart [] w w' := by
 obtain ⟨P, o, hp, hr, hP⟩ := h.first
 have z : (w.alloc (.cells #[.int .i64 0, .int .i64 0, .int .i64 0, .int .i64 0, .int .i64 0, .int .i64 0, .int .i64 0, .int .i64 0] 99)).cell? ⟨P, o, none⟩ = some (.string x.e) := by
  have h1 := hr 0 _ rfl
  rw [Nat.add_zero] at h1
  exact (((Apart.refl [] w).alloc _).cell (p := ⟨P, o, none⟩) hP (by simp)).trans h1
 have hn : (0 : Int) < ((s.n : Nat) : Int) := by have := h.len; simp at this; omega
 have hne : (((s.n : Nat) : Int) == 0) = false := by simp only [beq_eq_false_iff_ne]; omega
 have hee : (x.e.toList == e.toList) = false := by
  rw [beq_eq_false_iff_ne]
  intro k
  rw [Lib.toList_data, Lib.toList_data] at k
  exact he (ba_inj k)
 rw [hp]
 clear h hr hP hp he
 go_enter Tryz.func67, Tryz.ntmps67
 go_wp2_with (refine wpList_store_row rfl 99 _ _ rfl w.heap.size (rv zr).toArray rfl rfl 99 _ (heap_alloc_new w _) (by rw [size86]; rfl) (by rfl) (all_oneCell_toArray (rv_one _)) ?_)
 refine bodyPost_ret (results_row_tmp rfl _ _ w.heap.size 99 (rv zr).toArray _ _ _ rfl rfl (setRow_heap _ _ _ _ _ _ (heap_alloc_new w _)) Tryz.underlying99 rfl (by rw [size86]; rfl)) rfl ?_
 exact ⟨rfl, put_apart⟩
theorem split_eq {w : World} {s : Sl} {x : En} {r : List En} (h : Es w s (x :: r)) (hl : s.n ≤ 1000000) : Calls Tryz.prog 67 #[.slice s.p s.n s.c, .string x.e] w fun q w' => q = .returned (.tuple #[.agg (rv x.t).toArray, .slice (s.post 1).p (s.post 1).n (s.post 1).c]) ∧ Apart [] w w' := by
 obtain ⟨P, o, hp, hr, hP⟩ := h.first
 have Hxl : Hid (x.t.length = 8) := hid (h.row x (by simp))
 have HR : Hid (w.rangeAt P o x.vs) := hid hr
 have HP := hid hP
 have z : (w.alloc (.cells #[.int .i64 0, .int .i64 0, .int .i64 0, .int .i64 0, .int .i64 0, .int .i64 0, .int .i64 0, .int .i64 0] 99)).cell? ⟨P, o, none⟩ = some (.string x.e) := by
  have h1 := hr 0 _ rfl
  rw [Nat.add_zero] at h1
  exact (((Apart.refl [] w).alloc _).cell (p := ⟨P, o, none⟩) hP (by simp)).trans h1
 have hn : (0 : Int) < ((s.n : Nat) : Int) := by have := h.len; simp at this; omega
 have hne : (((s.n : Nat) : Int) == 0) = false := by simp only [beq_eq_false_iff_ne]; omega
 have hee : (x.e.toList == x.e.toList) = true := by rw [beq_iff_eq]
 have HS1 : Hid (1 ≤ s.n) := hid (by omega)
 obtain ⟨a, Ha⟩ : ∃ a, Hid (a = s.post 1) := ⟨_, hid rfl⟩
 rw [← Ha.out]
 obtain ⟨vp, Hvp⟩ : ∃ v, Hid (v = s.p) := ⟨_, hid rfl⟩
 have Hpp : Hid (vp = some ⟨P, o, none⟩) := hid (by rw [Hvp.out, hp])
 have Hpe : Hid (s.p = some ⟨P, o, none⟩) := hid hp
 rw [hp]
 clear h hr hP hp
 go_enter Tryz.func67, Tryz.ntmps67
 go_upto_region 3 with fail
 have HBZ : Hid ((w.alloc (.cells #[.int .i64 0, .int .i64 0, .int .i64 0, .int .i64 0, .int .i64 0, .int .i64 0, .int .i64 0, .int .i64 0] 99)).heap[w.heap.size]? = some (.cells (rv zr).toArray 99 (0, 0))) := hid (heap_alloc_new w _)
 have HA1 : Hid (Apart [] w (w.alloc (.cells #[.int .i64 0, .int .i64 0, .int .i64 0, .int .i64 0, .int .i64 0, .int .i64 0, .int .i64 0, .int .i64 0] 99))) := hid ((Apart.refl [] w).alloc _)
 obtain ⟨X, HX⟩ : ∃ X, Hid (X = w.heap.size) := ⟨_, hid rfl⟩
 rw [← HX.out] at HBZ ⊢
 have HNX : Hid (P ≠ X) := hid (by have := HP.out; rw [HX.out]; omega)
 generalize w.alloc (.cells #[.int .i64 0, .int .i64 0, .int .i64 0, .int .i64 0, .int .i64 0, .int .i64 0, .int .i64 0, .int .i64 0] 99) = w1 at *
 clear z
 have HR1 : Hid (w1.rangeAt P o x.vs) := hid (fun j v hj => (HA1.out.cell (p := ⟨P, o + j, none⟩) HP.out (by simp)).trans (HR.out j v hj))
 have HP1 : Hid (P < w1.heap.size) := hid (Nat.lt_of_lt_of_le HP.out HA1.out.size)
 have HOX : Hid (w1.drew.heap[X]? = some (.cells (rv zr).toArray 99 (0, 0))) := HBZ
 have hAd : Apart [X] w1 w1.drew := (Apart.refl [X] w1).drew
 refine wp_region_held_drew (S := fun W => Apart [X] w1 W) (by kernel_rfl) hAd (fun hHeld => ?_)
 generalize w1.drew = wd at *
 clear hAd
 refine zt 0 19 ?_
 simp only [zA,zB,zC,zD,zF]
 refine tk 1 20 (.pointer (some ⟨P, o, none⟩)) rfl ?_ ?_
 ·intro W hSW; go_simp; intro e; omega
 refine zt 2 21 ?_
 simp only [zA,zB,zC,zD,zF]
 refine tk 3 22 (.agg (rv x.t).toArray) rfl ?_ ?_
 ·intro W hSW; exact ex_load _ rfl P (o + 1) _ rfl (fun j v hj => (hSW.cell (p := ⟨P, o + 1 + j, none⟩) HP1.out (by simp; exact HNX.out)).trans (by have := HR1.out (j + 1) v (by rw [En.vs, List.getElem?_cons_succ]; exact hj); rwa [show o + (j + 1) = o + 1 + j from by omega] at this)) (by rw [rv_len, Hxl.out])
 refine zt 4 23 ?_
 simp only [zA,zB,zC,zD,zF]
 refine tk 5 24 (.slice a.p a.n a.c) rfl ?_ ?_
 ·intro W hSW; rw [Ha.out]; exact ex_post s 1 _ _ rfl (by rw [Hpe.out]; rfl) rfl HS1.out
 simp only [zA,zB,zC,zD,zF]
 refine zQ 6 fun KK hKK => ?_
 rw [if_pos (by rfl)]
 refine wp_store_row 99 _ _ rfl X (rv x.t).toArray rfl rfl 99 _ HOX.out (by rw [size86]; simp [rv_len, Hxl.out]) (by simp [rv_len, Hxl.out]; rfl) (all_oneCell_toArray (rv_one _)) ?_
 have hHa := hHeld.trans (apart_setRow wd X (rv x.t).toArray)
 replace HOX := hid (setRow_heap _ _ _ (rv x.t).toArray _ _ HOX.out)
 generalize wd.setRow X (rv x.t).toArray = wa at *
 try dsimp only
 refine hKK.out _ _ hHa (fun hHeld => ?_)
 clear hKK KK
 try simp only [zA,zB,zC,zD,zF]
 refine zt 7 5 ?_
 simp only [zA,zB,zC,zD,zF]
 refine wpAnyH_done (by kernel_rfl) ?_ _
 have HAP : Hid (Apart [] w wa) := hid (HA1.out.trans' hHeld (by intro y hy; simp at hy; rw [hy, HX.out]; exact .inr (Nat.le_refl _)))
 clear hHeld
 go_wp2_with fail
 refine bodyPost_ret (results_row_tmp rfl _ _ X 99 (rv x.t).toArray _ _ _ rfl rfl HOX.out Tryz.underlying99 rfl (by rw [size86]; simp [rv_len, Hxl.out])) rfl ?_
 exact ⟨rfl, HAP.out⟩
theorem split_ok {w : World} {s : Sl} {m : List En} (h : Es w s m) (hl : s.n ≤ 1000000) (e : ByteArray) : Calls Tryz.prog 67 #[.slice s.p s.n s.c, .string e] w fun r w' => ∃ s' : Sl, r = .returned (.tuple #[.agg (rv (entE m e)).toArray, .slice s'.p s'.n s'.c]) ∧ Apart [] w w' ∧ (∀ W, Es W s m → Es W s' (resE m e)) ∧ s'.n ≤ s.n := by
 cases m with
 | nil =>
  refine (split_nil h.len e).mono ?_
  rintro _ w' ⟨rfl, a⟩
  exact ⟨s, rfl, a, fun W hW => hW, Nat.le_refl _⟩
 | cons x r =>
  rw [entE_cons, resE_cons]
  by_cases he : x.e = e
  ·subst he
   refine (split_eq h hl).mono ?_
   rintro _ w' ⟨rfl, a⟩
   rw [if_pos rfl, if_pos rfl]
   exact ⟨_, rfl, a, fun W hW => hW.post (k := 1) (by simp), Nat.sub_le _ _⟩
  ·refine (split_ne h hl e he).mono ?_
   rintro _ w' ⟨rfl, a⟩
   rw [if_neg he, if_neg he]
   exact ⟨s, rfl, a, fun W hW => hW, Nat.le_refl _⟩
theorem least_ok {w : World} {a b : Sl} {m t : List En} (ha : Es w a m) (hb : Es w b t) (hl : a.n ≤ 1000000) (hl' : b.n ≤ 1000000) (h0 : ¬ m.length + t.length = 0) : Calls Tryz.prog 66 #[.slice a.p a.n a.c, .slice b.p b.n b.c] w fun r w' => r = .returned (.string (leaE m t)) ∧ Apart [] w w' := by
 cases m with
 | nil => cases t with
  | nil => exact absurd rfl h0
  | cons y t => exact least_right ha.len hb hl'
 | cons x m => cases t with
  | nil => exact least_left ha hb.len hl
  | cons y t => exact least_both ha hb hl hl'
end Go.Proofs.YtdbeeikjngnnnaaGreat.ty
