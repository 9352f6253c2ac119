import Derived.Test.YtdbeeikjngnnnaaGreatC21
import Derived.Test.YtdbeeikjngnnnaaGreatC23
namespace Go.Proofs.YtdbeeikjngnnnaaGreat.ty
open Go.ChangeShapes Go.WideShapes Go.ChangeAt Go.RowKit
set_option linter.unusedVariables false
set_option linter.unusedSimpArgs false
set_option maxRecDepth 100000
set_option maxHeartbeats 8000000
/-! ### the document's reader -/
structure Dr (wB w : World) (R : Nat) (s : Sl) (bs : List Nat) (a : Nat) (bad : Bool) : Prop where
 blk : w.heap[R]? = some (.cells #[.slice s.p s.n s.c, .int .i64 (a : Int), .bool bad] 134 (0, 0))
 new : wB.heap.size ≤ R
 ap : Apart [] wB w
 rd : Rd wB s.p (byts bs)
 len : bs.length = s.n
 ok : s.ok
 u8 : U8 bs
 le : bs.length ≤ 64
 at_ : a ≤ bs.length
theorem Dr.kept0 {wB w w' : World} {R : Nat} {s : Sl} {bs : List Nat} {a : Nat} {bad : Bool} (h : Dr wB w R s bs a bad) (k : Apart [] w w') : Dr wB w' R s bs a bad := ⟨keep0 k h.blk, h.new, h.ap.trans k, h.rd, h.len, h.ok, h.u8, h.le, h.at_⟩
theorem Dr.kept {wB w w' : World} {R : Nat} {s : Sl} {bs : List Nat} {a : Nat} {bad : Bool} {X : List Nat} (h : Dr wB w R s bs a bad) (k : Apart X w w') (hR : R ∉ X) (hX : ∀ x ∈ X, wB.heap.size ≤ x) : Dr wB w' R s bs a bad := ⟨(k.block R (lt_of_heap h.blk) hR).trans h.blk, h.new, h.ap.trans' k (fun y hy => .inr (hX y hy)), h.rd, h.len, h.ok, h.u8, h.le, h.at_⟩
theorem Dr.c0 {wB w : World} {R : Nat} {s : Sl} {bs : List Nat} {a : Nat} {bad : Bool} (h : Dr wB w R s bs a bad) : w.cell? ⟨R, 0, none⟩ = some (.slice s.p s.n s.c) := by rw [cell_of_row _ _ _ _ _ _ h.blk]; rfl
theorem Dr.c1 {wB w : World} {R : Nat} {s : Sl} {bs : List Nat} {a : Nat} {bad : Bool} (h : Dr wB w R s bs a bad) : w.cell? ⟨R, 1, none⟩ = some (.int .i64 (a : Int)) := by rw [cell_of_row _ _ _ _ _ _ h.blk]; rfl
theorem Dr.c2 {wB w : World} {R : Nat} {s : Sl} {bs : List Nat} {a : Nat} {bad : Bool} (h : Dr wB w R s bs a bad) : w.cell? ⟨R, 2, none⟩ = some (.bool bad) := by rw [cell_of_row _ _ _ _ _ _ h.blk]; rfl
theorem Dr.fr {wB w : World} {R : Nat} {s : Sl} {bs : List Nat} {a : Nat} {bad : Bool} (h : Dr wB w R s bs a bad) (i : Nat) : w.frozen? ⟨R, i, none⟩ = false := frozen_of_row _ _ _ _ _ h.blk
theorem Dr.setAt {wB w : World} {R : Nat} {s : Sl} {bs : List Nat} {a : Nat} {bad : Bool} (h : Dr wB w R s bs a bad) {b : Nat} (hb : b ≤ bs.length) : Dr wB (w.setCell ⟨R, 1, none⟩ (.int .i64 (b : Int))) R s bs b bad := ⟨by
 rw [heap_setCell_same _ _ _ _ _ _ h.blk]; rfl, h.new, h.ap.setCell (.inr h.new) _, h.rd, h.len, h.ok, h.u8, h.le, hb⟩
theorem Dr.setBad {wB w : World} {R : Nat} {s : Sl} {bs : List Nat} {a : Nat} {bad : Bool} (h : Dr wB w R s bs a bad) : Dr wB (w.setCell ⟨R, 2, none⟩ (.bool true)) R s bs a true := ⟨by
 rw [heap_setCell_same _ _ _ _ _ _ h.blk]; rfl, h.new, h.ap.setCell (.inr h.new) _, h.rd, h.len, h.ok, h.u8, h.le, h.at_⟩
def dnum (bs : List Nat) (a k : Nat) : Nat := if a + k ≤ bs.length then leV ((bs.drop a).take k) else 0
def dat (bs : List Nat) (a k : Nat) : Nat := if a + k ≤ bs.length then a + k else bs.length
def dbad (bs : List Nat) (a k : Nat) : Bool := decide (bs.length < a + k)
theorem dat_le (bs : List Nat) (a k : Nat) : dat bs a k ≤ bs.length := by unfold dat; split <;> omega
theorem dnum_lt {bs : List Nat} (h : U8 bs) (a k : Nat) : dnum bs a k < 2 ^ (8 * k) := by
 unfold dnum
 split
 ·refine Nat.lt_of_lt_of_le (leV_lt (fun x hx => h x (List.mem_of_mem_drop (List.mem_of_mem_take hx)))) (Nat.pow_le_pow_right (by omega) ?_)
  rw [List.length_take]; omega
 ·exact Nat.pow_pos (by omega)
theorem take_snoc {l : List Nat} {i : Nat} (h : i < l.length) : l.take (i + 1) = l.take i ++ [l[i]] := List.take_succ_eq_append_getElem h
theorem dnumber_ok {wB w : World} {R : Nat} {s : Sl} {bs : List Nat} {a : Nat} {bad : Bool} (h : Dr wB w R s bs a bad) {k : Nat} (hk : k ≤ 3) : Calls Tryz.prog 62 #[.pointer (some ⟨R, 0, none⟩), .int .i64 (k : Int)] w fun x w' => x = .returned (.int .i64 ((dnum bs a k : Nat) : Int)) ∧ Dr wB w' R s bs (dat bs a k) (bad || dbad bs a k) ∧ Apart [R] w w' := by
 have H0 : Hid (Dr wB w R s bs (a + 0) bad) := hid h
 have Hk := hid hk
 have HR0 := hid h
 obtain ⟨N, HN⟩ : ∃ N, Hid (N = bs.length) := ⟨_, hid rfl⟩
 have HsN : Hid (s.n = N) := hid (by rw [HN.out]; exact h.len.symm)
 have HaN : Hid (a ≤ N) := hid (by rw [HN.out]; exact h.at_)
 have HN64 : Hid (N ≤ 64) := hid (by rw [HN.out]; exact h.le)
 have HA0 := hid (Apart.refl [R] w)
 clear h
 go_enter Tryz.func62, Tryz.ntmps62
 go_upto_region 4 with fail
 go_loopw [5, 6, 7] (fun v5 v6 v7 wt => ∃ i nn uu : Nat, v5 = .int .i64 (nn : Int) ∧ v6 = .int .i64 (uu : Int) ∧ v7 = .int .i64 (i : Int) ∧ i ≤ k ∧ Hid (nn = leV ((bs.drop a).take i)) ∧ Hid (uu = 2 ^ (8 * i)) ∧ Hid (a + i ≤ N) ∧ Hid (Dr wB wt R s bs (a + i) bad) ∧ Hid (Apart [R] w wt)) (fun _ _ v7 _ => k - natV v7)
 case atStart => exact ⟨0, 0, 1, rfl, rfl, rfl, Nat.zero_le _, hid (by simp [leV]), hid rfl, hid (by have := HaN.out; omega), H0, HA0⟩
 case round =>
  clear H0 HA0
  obtain ⟨i, nn, uu, rfl, rfl, rfl, hik, Hn, Hu, HaI, HD, HA⟩ := hrel
  generalize wr = wt at *
  by_cases hlt : i < k
  ·have hlti : ((i : Nat) : Int) < ((k : Nat) : Int) := by omega
   have Hlt := hid hlt
   obtain ⟨q, Hq⟩ : ∃ q, Hid (q = a + i) := ⟨_, hid rfl⟩
   rw [← Hq.out] at HD HaI
   have HRl := hid (lt_of_heap HD.out.blk)
   have Hc0 : Hid (wt.cell? ⟨R, 0, none⟩ = some (.slice s.p N s.c)) := hid (by rw [HD.out.c0, HsN.out])
   have Hc1 := hid HD.out.c1
   obtain ⟨ge, Hgee⟩ : ∃ b, Hid (b = decide (N ≤ q)) := ⟨_, hid rfl⟩
   have Hge : Hid (decide (N ≤ q) = ge) := hid Hgee.out.symm
   go_upto_region 6 with fail
   go_cut [22] from 13 to 22 (fun v wx => v = .bool ge ∧ Apart [] wt wx)
   case first =>
    refine wp_region_held_drew (S := fun W => Apart [] wt W) (by kernel_rfl) (Apart.refl [] wt).drew fun hHeld => ?_
    generalize wt.drew = wd at *
    refine zt 0 13 ?_
    refine zt 1 14 ?_
    refine zt 2 15 ?_
    refine zu 3 16 rfl (fun W hSW => by have z : W.cell? ⟨R, 1, none⟩ = some (.int .i64 (q : Nat)) := (hSW.cell HRl.out (by simp)).trans Hc1.out; go_simp <;> rfl) ?_
    refine zt 4 17 ?_
    refine zt 5 18 ?_
    refine zt 6 19 ?_
    refine zu 7 20 rfl (fun W hSW => by have z : W.cell? ⟨R, 0, none⟩ = some (.slice s.p N s.c) := (hSW.cell HRl.out (by simp)).trans Hc0.out; go_simp <;> rfl) ?_
    refine zt 8 21 ?_
    simp only [zA,zB,zC,zD,zF]
    refine tk 9 22 (.bool ge) rfl ?_ ?_
    ·intro W hSW; have h := Hge.out; go_simp
    simp only [zA,zB,zC,zD,zF]
    refine wpAnyH_done (by kernel_rfl) ?_ _
    have HAt := hid hHeld
    clear hHeld
    go_wp2_with fail
    go_meet
    exact ⟨rfl, HAt.out⟩
   obtain ⟨rfl, apc⟩ := hcut
   have HD2 := hid (HD.out.kept0 apc)
   have HA2 := hid (HA.out.trans (apc.mono (by simp)))
   clear apc HD HA Hc0 Hc1 Hge
   generalize wc = w2 at *
   cases hge : ge
   case true =>
    have Hqn : Hid (q = N) := hid (by
     have h1 := Hgee.out
     rw [hge] at h1
     have h2 := of_decide_eq_true h1.symm
     have := HaI.out
     omega)
    have f2 := HD2.out.fr 2
    have z2 := HD2.out.c2
    have HDn := hid HD2.out.setBad
    have HAn : Hid (Apart [R] w (w2.setCell ⟨R, 2, none⟩ (.bool true))) := hid (HA2.out.setCell (.inl (by simp)) _)
    have Hov : Hid (bs.length < a + k) := hid (by have h1 := Hqn.out; have h2 := Hq.out; have h3 := Hlt.out; have h4 := HN.out; omega)
    have Hr : Hid (dnum bs a k = 0 ∧ dat bs a k = q ∧ (bad || dbad bs a k) = true) := hid ⟨by unfold dnum; rw [if_neg (by have := Hov.out; omega)], by unfold dat; rw [if_neg (by have := Hov.out; omega), ← HN.out, Hqn.out], by unfold dbad; rw [decide_eq_true Hov.out]; simp⟩
    go_wp2_with fail
    go_ret
    rw [Hr.out.1, Hr.out.2.1, Hr.out.2.2]
    exact ⟨rfl, HDn.out, HAn.out⟩
   case false =>
    have Hqn : Hid (q < N) := hid (by
     have h1 := Hgee.out
     rw [hge] at h1
     have h2 := of_decide_eq_false h1.symm
     omega)
    have Hqb : Hid (q < bs.length) := hid (by rw [← HN.out]; exact Hqn.out)
    obtain ⟨B, o, hp, hB, hc⟩ := HD2.out.rd (by rw [byts_len]; have := Hqb.out; omega)
    obtain ⟨x, Hxe⟩ : ∃ x, Hid (x = bs[q]'Hqb.out) := ⟨_, hid rfl⟩
    have hx0 : wB.cell? ⟨B, o + q, none⟩ = some (.int .u8 (x : Nat)) := hc q _ (by rw [Hxe.out]; simp [byts, Hqb.out])
    have HBl : Hid (B < w2.heap.size) := hid (Nat.lt_of_lt_of_le hB HD2.out.ap.size)
    have Hx : Hid (w2.cell? ⟨B, o + q, none⟩ = some (.int .u8 (x : Nat))) := hid ((HD2.out.ap.cell hB (by simp)).trans hx0)
    have Hx8 : Hid (x < 256) := hid (by rw [Hxe.out]; exact HD2.out.u8 _ (List.getElem_mem _))
    have HRl := hid (lt_of_heap HD2.out.blk)
    have Hc0 : Hid (w2.cell? ⟨R, 0, none⟩ = some (.slice (some ⟨B, o, none⟩) N s.c)) := hid (by rw [HD2.out.c0, HsN.out, hp])
    have Hc1 := hid HD2.out.c1
    have Hqi : Hid (((q : Nat) : Int) < ((N : Nat) : Int)) := hid (Int.ofNat_lt.2 Hqn.out)
    have Hi2 : Hid (i ≤ 2) := hid (by have := Hk.out; have := Hlt.out; omega)
    have Hub : Hid (uu ≤ 65536) := hid (by
     rw [Hu.out]
     have h1 : 2 ^ (8 * i) ≤ 2 ^ 16 := Nat.pow_le_pow_right (by omega) (by have := Hi2.out; omega)
     exact h1)
    have Hux : Hid (uu * x ≤ 16711680) := hid (by
     have h1 := Nat.mul_le_mul Hub.out (show x ≤ 255 by have := Hx8.out; omega)
     omega)
    have Hnb : Hid (nn < 16777216) := hid (by
     rw [Hn.out]
     have h1 := leV_lt (l := (bs.drop a).take i) (fun y hy => HD2.out.u8 y (List.mem_of_mem_drop (List.mem_of_mem_take hy)))
     have h2 : ((bs.drop a).take i).length ≤ 3 := by rw [List.length_take]; have := Hi2.out; omega
     have h3 : 2 ^ (8 * ((bs.drop a).take i).length) ≤ 2 ^ 24 := Nat.pow_le_pow_right (by omega) (by omega)
     omega)
    have Hxw : Hid (IntKind.i64.wrap ((x : Nat) : Int) = ((x : Nat) : Int)) := hid (by rw [IntKind.wrap_i64]; have := Hx8.out; omega)
    have Hmi : Hid ((uu : Int) * (x : Int) = ((uu * x : Nat) : Int)) := hid (Int.natCast_mul uu x).symm
    have Hmw : Hid (IntKind.i64.wrap ((uu : Int) * (x : Int)) = (uu : Int) * (x : Int)) := hid (by rw [Hmi.out, IntKind.wrap_i64]; have := Hux.out; omega)
    have Haw : Hid (IntKind.i64.wrap ((nn : Int) + (uu : Int) * (x : Int)) = (nn : Int) + (uu : Int) * (x : Int)) := hid (by rw [Hmi.out, IntKind.wrap_i64]; have := Hux.out; have := Hnb.out; omega)
    clear hp hB hc hx0
    go_upto_region 9 with fail
    refine wp_region_held_drew (S := fun W => Apart [] w2 W) (by kernel_rfl) (Apart.refl [] w2).drew fun hHeld => ?_
    generalize w2.drew = wd at *
    refine zt 0 26 ?_
    refine zt 1 27 ?_
    refine zt 2 28 ?_
    refine zt 3 29 ?_
    refine zt 4 30 ?_
    refine zu 5 31 rfl (fun W hSW => by have z : W.cell? ⟨R, 0, none⟩ = some (.slice (some ⟨B, o, none⟩) N s.c) := (hSW.cell HRl.out (by simp)).trans Hc0.out; go_simp <;> rfl) ?_
    refine zt 6 32 ?_
    refine zt 7 33 ?_
    refine zt 8 34 ?_
    refine zu 9 35 rfl (fun W hSW => by have z : W.cell? ⟨R, 1, none⟩ = some (.int .i64 (q : Nat)) := (hSW.cell HRl.out (by simp)).trans Hc1.out; go_simp <;> rfl) ?_
    simp only [zA,zB,zC,zD,zF]
    refine tk 10 36 (.pointer (some ⟨B, o + q, none⟩)) rfl ?_ ?_
    ·intro W hSW; have hq := Hqi.out; go_simp
    refine zu 11 37 rfl (fun W hSW => by have z : W.cell? ⟨B, o + q, none⟩ = some (.int .u8 (x : Nat)) := (hSW.cell HBl.out (by simp)).trans Hx.out; go_simp <;> rfl) ?_
    simp only [zA,zB,zC,zD,zF]
    refine tk 12 38 (.int .i64 (x : Nat)) rfl ?_ ?_
    ·intro W hSW; have hx := Hxw.out; go_simp
    simp only [zA,zB,zC,zD,zF]
    refine tk 13 39 (.int .i64 ((uu : Int) * (x : Int))) rfl ?_ ?_
    ·intro W hSW; have hx := Hmw.out; go_simp
    simp only [zA,zB,zC,zD,zF]
    refine tk 14 40 (.int .i64 ((nn : Int) + (uu : Int) * (x : Int))) rfl ?_ ?_
    ·intro W hSW; have hx := Haw.out; go_simp
    refine zt 15 5 ?_
    simp only [zA,zB,zC,zD,zF]
    refine wpAnyH_done (by kernel_rfl) ?_ _
    have HA3 := hid hHeld
    clear hHeld
    generalize wd = w3 at *
    obtain ⟨n2, Hn2⟩ : ∃ n2 : Nat, Hid (n2 = nn + uu * x) := ⟨_, hid rfl⟩
    have Hn2i : Hid ((nn : Int) + (uu : Int) * (x : Int) = (n2 : Int)) := hid (by rw [Hn2.out, Int.natCast_add, Int.natCast_mul])
    rw [Hn2i.out]
    have HD3 := hid (HD2.out.kept0 HA3.out)
    have HA4 := hid (HA2.out.trans (HA3.out.mono (by simp)))
    have z1 := HD3.out.c1
    have f1 := HD3.out.fr 1
    have hub : uu ≤ 65536 := Hub.out
    have hqN : q ≤ 64 := by have := Hqn.out; have := HN64.out; omega
    have hw2 : wrap64 ((uu : Int) * 256) = (uu : Int) * 256 := IntWalk.wrap64_in _ (by omega)
    have hw3 : wrap64 ((q : Int) + 1) = (q : Int) + 1 := IntWalk.wrap64_in _ (by omega)
    have Hstep : Hid (n2 = leV ((bs.drop a).take (i + 1))) := hid (by
     have hl : i < (bs.drop a).length := by rw [List.length_drop]; have := Hqb.out; have := Hq.out; omega
     have hx : (bs.drop a)[i]'hl = x := by
      rw [Hxe.out, List.getElem_drop]
      congr 1
      exact Hq.out.symm
     rw [take_snoc hl, leV_snoc, List.length_take, Nat.min_eq_left (by omega), Hn2.out, Hn.out, Hu.out, hx, Nat.mul_comm x])
    have HDn := hid (HD3.out.setAt (b := q + 1) (by have := Hqb.out; omega))
    have HAn : Hid (Apart [R] w (w3.setCell ⟨R, 1, none⟩ (.int .i64 ((q + 1 : Nat) : Int)))) := hid (HA4.out.setCell (.inl (by simp)) _)
    have Hq1 : Hid (q + 1 = a + (i + 1)) := hid (by have := Hq.out; omega)
    have hq1i : ((q : Int) + 1) = ((q + 1 : Nat) : Int) := by omega
    rw [hq1i] at hw3
    have Hu2 : Hid (uu * 256 = 2 ^ (8 * (i + 1))) := hid (by rw [Hu.out, Nat.mul_add, Nat.pow_add])
    clear hq1i
    go_wp2_with fail
    refine ⟨⟨i + 1, n2, uu * 256, rfl, by rw [Int.natCast_mul]; rfl, by go_num, by omega, Hstep, Hu2, hid (by rw [← Hq1.out]; have := Hqn.out; omega), ?_, ?_⟩, by simp [natV]; omega⟩
    ·rw [← Hq1.out]; exact HDn
    ·exact HAn
  ·have hlti : ¬ ((i : Nat) : Int) < ((k : Nat) : Int) := by omega
   obtain rfl : i = k := by omega
   have Hfit : Hid (a + i ≤ bs.length) := hid (by rw [← HN.out]; exact HaI.out)
   have Hr : Hid (dnum bs a i = nn ∧ dat bs a i = a + i ∧ (bad || dbad bs a i) = bad) := hid ⟨by unfold dnum; rw [if_pos Hfit.out, Hn.out], by unfold dat; rw [if_pos Hfit.out], by unfold dbad; rw [decide_eq_false (by have := Hfit.out; omega)]; simp⟩
   go_wp2_with fail
   go_ret
   rw [Hr.out.1, Hr.out.2.1, Hr.out.2.2]
   exact ⟨rfl, HD.out, HA.out⟩
/-! ### the document's row, on plain lists -/
structure Rs where
 u : List Int
 d : List Int
 at_ : Nat
 bad : Bool
def rwS (bs : List Nat) (mask size : Nat) (two : Bool) (s : Rs) (i : Nat) : Rs :=
 if mask / 2 ^ i % 2 = 1 then
  (if two = true then ⟨s.u ++ [(dnum bs s.at_ size : Int)], s.d ++ [(dnum bs (dat bs s.at_ size) size : Int)], dat bs (dat bs s.at_ size) size, (s.bad || dbad bs s.at_ size) || dbad bs (dat bs s.at_ size) size⟩
  else ⟨s.u ++ [(dnum bs s.at_ size : Int)], s.d ++ [0], dat bs s.at_ size, s.bad || dbad bs s.at_ size⟩)
 else ⟨s.u ++ [0], s.d ++ [0], s.at_, s.bad⟩
def rwD (bs : List Nat) (mask size : Nat) (two : Bool) (a : Nat) (b : Bool) : Nat → Rs
 | 0 => ⟨[], [], a, b⟩
 | i + 1 => rwS bs mask size two (rwD bs mask size two a b i) i
theorem rwD_len (bs : List Nat) (mask size : Nat) (two : Bool) (a : Nat) (b : Bool) : ∀ i, (rwD bs mask size two a b i).u.length = i ∧ (rwD bs mask size two a b i).d.length = i
 | 0 => ⟨rfl, rfl⟩
 | i + 1 => by
  have h := rwD_len bs mask size two a b i
  unfold rwD rwS
  split
  ·split <;> simp [h.1, h.2]
  ·simp [h.1, h.2]
theorem rwD_at (bs : List Nat) (mask size : Nat) (two : Bool) (a : Nat) (b : Bool) (ha : a ≤ bs.length) : ∀ i, (rwD bs mask size two a b i).at_ ≤ bs.length
 | 0 => ha
 | i + 1 => by
  have h := rwD_at bs mask size two a b ha i
  unfold rwD rwS
  split
  ·split
   ·exact dat_le _ _ _
   ·exact dat_le _ _ _
  ·exact h
theorem rwD_bd {bs : List Nat} (h8 : U8 bs) (mask : Nat) {size : Nat} (hs : size ≤ 3) (two : Bool) (a : Nat) (b : Bool) : ∀ i, (∀ x ∈ (rwD bs mask size two a b i).u, 0 ≤ x ∧ x ≤ 16777215) ∧ (∀ x ∈ (rwD bs mask size two a b i).d, 0 ≤ x ∧ x ≤ 16777215)
 | 0 => ⟨by simp [rwD], by simp [rwD]⟩
 | i + 1 => by
  obtain ⟨h1, h2⟩ := rwD_bd h8 mask hs two a b i
  have hn : ∀ q, 0 ≤ (dnum bs q size : Int) ∧ (dnum bs q size : Int) ≤ 16777215 := fun q => by
   have e1 := dnum_lt h8 q size
   have e2 : 2 ^ (8 * size) ≤ 2 ^ 24 := Nat.pow_le_pow_right (by omega) (by omega)
   omega
  have ap : ∀ {l : List Int} {z : Int}, (∀ x ∈ l, 0 ≤ x ∧ x ≤ 16777215) → (0 ≤ z ∧ z ≤ 16777215) → ∀ x ∈ l ++ [z], 0 ≤ x ∧ x ≤ 16777215 := fun {l z} hl hz x hx => by
   rcases List.mem_append.1 hx with hx | hx
   ·exact hl x hx
   ·rw [List.mem_singleton.1 hx]; exact hz
  unfold rwD rwS
  split
  ·split
   ·exact ⟨ap h1 (hn _), ap h2 (hn _)⟩
   ·exact ⟨ap h1 (hn _), ap h2 (by omega)⟩
  ·exact ⟨ap h1 (by omega), ap h2 (by omega)⟩
theorem or_false {a b : Bool} (h : (a || b) = false) : a = false ∧ b = false := by
 cases a <;> cases b <;> simp_all
theorem dfit {bs : List Nat} {a k : Nat} (h : dbad bs a k = false) : a + k ≤ bs.length ∧ dnum bs a k = leV ((bs.drop a).take k) ∧ dat bs a k = a + k ∧ (bs.drop a).drop k = bs.drop (a + k) := by
 have h1 : a + k ≤ bs.length := by unfold dbad at h; have := of_decide_eq_false h; omega
 refine ⟨h1, by unfold dnum; rw [if_pos h1], by unfold dat; rw [if_pos h1], by rw [List.drop_drop]⟩
theorem rwD_one {bs : List Nat} {mask size a : Nat} {b : Bool} : ∀ i, (rwD bs mask size false a b i).bad = false → rwI mask size i (bs.drop a) = ((rwD bs mask size false a b i).u, bs.drop (rwD bs mask size false a b i).at_)
 | 0, _ => rfl
 | i + 1, h => by
  unfold rwD rwS at h ⊢
  unfold rwI
  by_cases hb : mask / 2 ^ i % 2 = 1
  ·rw [if_pos hb] at h ⊢
   rw [if_pos hb]
   simp only [Bool.false_eq_true, if_false] at h ⊢
   obtain ⟨h1, h2⟩ := or_false h
   obtain ⟨f1, f2, f3, f4⟩ := dfit h2
   rw [rwD_one i h1, f2, f3, f4]
  ·rw [if_neg hb] at h ⊢
   rw [if_neg hb, rwD_one i h]
theorem leV_app (x y : List Nat) : leV (x ++ y) = leV x + leV y * 2 ^ (8 * x.length) := by
 induction x with
 | nil => simp [leV]
 | cons z r ih =>
  rw [List.cons_append, leV, ih, leV, List.length_cons, Nat.mul_succ, Nat.pow_add]
  have : (2 : Nat) ^ 8 = 256 := by decide
  rw [this, Nat.mul_add, Nat.add_assoc]
  congr 2
  rw [Nat.mul_left_comm, Nat.mul_comm 256]
theorem leV_six {l : List Nat} (h : 6 ≤ l.length) : leV (l.take 6) = leV (l.take 3) + leV ((l.drop 3).take 3) * 16777216 := by
 have e : l.take 6 = l.take 3 ++ (l.drop 3).take 3 := by rw [← List.take_add]
 rw [e, leV_app, List.length_take, Nat.min_eq_left (by omega)]
theorem rwD_two {bs : List Nat} (h8 : U8 bs) {mask a : Nat} {b : Bool} : ∀ i, (rwD bs mask 3 true a b i).bad = false → (rwI mask 6 i (bs.drop a)).2 = bs.drop (rwD bs mask 3 true a b i).at_ ∧ cuR (rwI mask 6 i (bs.drop a)).1 = (rwD bs mask 3 true a b i).u ∧ cdR (rwI mask 6 i (bs.drop a)).1 = (rwD bs mask 3 true a b i).d
 | 0, _ => ⟨rfl, rfl, rfl⟩
 | i + 1, h => by
  unfold rwD rwS at h ⊢
  unfold rwI
  by_cases hb : mask / 2 ^ i % 2 = 1
  ·rw [if_pos hb] at h ⊢
   rw [if_pos hb]
   simp only [if_true] at h ⊢
   obtain ⟨h1, h3⟩ := or_false h
   obtain ⟨h1, h2⟩ := or_false h1
   obtain ⟨e1, e2, e3⟩ := rwD_two h8 i h1
   obtain ⟨f1, f2, f3, f4⟩ := dfit h2
   rw [f3] at h3 ⊢
   obtain ⟨g1, g2, g3, g4⟩ := dfit h3
   have hl6 : 6 ≤ (bs.drop (rwD bs mask 3 true a b i).at_).length := by rw [List.length_drop]; omega
   have hx : leV ((bs.drop (rwD bs mask 3 true a b i).at_).take 6) = dnum bs (rwD bs mask 3 true a b i).at_ 3 + dnum bs ((rwD bs mask 3 true a b i).at_ + 3) 3 * 16777216 := by
    rw [leV_six hl6, f4, f2, g2]
   have b1 : dnum bs (rwD bs mask 3 true a b i).at_ 3 < 16777216 := dnum_lt h8 _ 3
   refine ⟨?_, ?_, ?_⟩
   ·rw [e1, g3, List.drop_drop]
   ·rw [e1, hx, ← e2]
    unfold cuR
    rw [List.map_append]
    congr 1
    simp only [List.map_cons, List.map_nil, List.cons.injEq, and_true]
    omega
   ·rw [e1, hx, ← e3]
    unfold cdR
    rw [List.map_append]
    congr 1
    simp only [List.map_cons, List.map_nil, List.cons.injEq, and_true]
    omega
  ·rw [if_neg hb] at h ⊢
   rw [if_neg hb]
   obtain ⟨e1, e2, e3⟩ := rwD_two h8 i h
   refine ⟨e1, ?_, ?_⟩
   ·rw [← e2]; unfold cuR; rw [List.map_append]; rfl
   ·rw [← e3]; unfold cdR; rw [List.map_append]; rfl
theorem nb8_pre (r : List Int) (wd : Nat) : ∀ {i n : Nat}, i ≤ n → ∃ q, nb8 r wd n = nb8 r wd i ++ q := by
 intro i n h
 induction n with
 | zero =>
  obtain rfl : i = 0 := by omega
  exact ⟨[], by simp⟩
 | succ n ih =>
  by_cases e : i = n + 1
  ·subst e
   exact ⟨[], by simp⟩
  ·obtain ⟨q, hq⟩ := ih (by omega)
   rw [nb8]
   split
   ·exact ⟨q ++ leB (r.getD n 0).toNat wd, by rw [hq, List.append_assoc]⟩
   ·exact ⟨q, hq⟩
theorem mk8_div (r : List Int) {i : Nat} (hi : i < 8) : mk8 r 8 / 2 ^ i % 2 = 1 ↔ 0 < r.getD i 0 := by
 have h := mk8_bit r i 8
 rw [Nat.testBit_eq_decide_div_mod_eq] at h
 have h2 := decide_eq_decide.1 h
 rw [h2]
 constructor
 ·exact fun k => k.2
 ·exact fun k => ⟨hi, k⟩
theorem row_room {wd : Nat} {r : List Int} (h : Rw wd r) {us tl : List Nat} (e : us = nb8 r wd 8 ++ tl) {i : Nat} (hi : i < 8) (hb : mk8 r 8 / 2 ^ i % 2 = 1) : wd ≤ (rwI (mk8 r 8) wd i us).2.length := by
 have hp := (mk8_div r hi).1 hb
 obtain ⟨q, hq⟩ := nb8_pre r wd (show i + 1 ≤ 8 by omega)
 have h1 : nb8 r wd (i + 1) = nb8 r wd i ++ leB (r.getD i 0).toNat wd := by rw [nb8, if_pos hp]
 rw [e, hq, h1, List.append_assoc, List.append_assoc, rwI_back h i _ (by omega), List.length_append, leB_len]
 omega
theorem rwD_good1 {bs : List Nat} {wd a : Nat} {r : List Int} (h : Rw wd r) {tl : List Nat} (e : bs.drop a = nb8 r wd 8 ++ tl) : ∀ i, i ≤ 8 → (rwD bs (mk8 r 8) wd false a false i).bad = false
 | 0, _ => rfl
 | i + 1, hi => by
  have ih := rwD_good1 h e i (by omega)
  unfold rwD rwS
  by_cases hb : mk8 r 8 / 2 ^ i % 2 = 1
  ·rw [if_pos hb]
   simp only [Bool.false_eq_true, if_false]
   have h1 := row_room h e (by omega) hb
   rw [rwD_one i ih] at h1
   simp only [List.length_drop] at h1
   rw [ih]
   unfold dbad
   rw [decide_eq_false (by
    by_cases hw : wd = 0
    ·have := rwD_at bs (mk8 r 8) wd false a false (by
      by_cases c : a ≤ bs.length
      ·exact c
      ·exfalso
       rw [List.drop_eq_nil_of_le (by omega)] at e
       have hl := congrArg List.length e
       rw [hw] at h1
       have hp := (mk8_div r (by omega : i < 8)).1 hb
       subst hw
       have hz := h.lt i (by omega)
       have h20 : (2 : Int) ^ (8 * 0) = 1 := by decide
       omega) i
     omega
    ·omega)]
   rfl
  ·rw [if_neg hb]; exact ih
theorem rwD_good2 {bs : List Nat} (h8 : U8 bs) {a : Nat} {r : List Int} (h : Rw 6 r) {tl : List Nat} (e : bs.drop a = nb8 r 6 8 ++ tl) : ∀ i, i ≤ 8 → (rwD bs (mk8 r 8) 3 true a false i).bad = false
 | 0, _ => rfl
 | i + 1, hi => by
  have ih := rwD_good2 h8 h e i (by omega)
  unfold rwD rwS
  by_cases hb : mk8 r 8 / 2 ^ i % 2 = 1
  ·rw [if_pos hb]
   simp only [if_true]
   have h1 := row_room h e (by omega) hb
   rw [(rwD_two h8 i ih).1] at h1
   simp only [List.length_drop] at h1
   rw [ih]
   have d1 : dbad bs (rwD bs (mk8 r 8) 3 true a false i).at_ 3 = false := by unfold dbad; rw [decide_eq_false (by omega)]
   have d2 := dfit d1
   rw [d2.2.2.1, d1]
   unfold dbad
   rw [decide_eq_false (by omega)]
   rfl
  ·rw [if_neg hb]; exact ih
def rowDD (bs : List Nat) (a : Nat) (b : Bool) (size : Nat) (two : Bool) : Rs := rwD bs (dnum bs a 1) size two (dat bs a 1) (b || dbad bs a 1) 8
theorem rwD_mono {bs : List Nat} {mask size : Nat} {two : Bool} {a : Nat} {b : Bool} : ∀ i, (rwD bs mask size two a b i).bad = false → b = false
 | 0, h => h
 | i + 1, h => by
  unfold rwD rwS at h
  split at h
  ·split at h
   ·exact rwD_mono i (or_false (or_false h).1).1
   ·exact rwD_mono i (or_false h).1
  ·exact rwD_mono i h
theorem rowDD_one {bs : List Nat} {a : Nat} {b : Bool} {size : Nat} (h : (rowDD bs a b size false).bad = false) : b = false ∧ rowR (bs.drop a) size = ((rowDD bs a b size false).u, bs.drop (rowDD bs a b size false).at_) := by
 obtain ⟨h1, h2⟩ := or_false (rwD_mono 8 h)
 refine ⟨h1, ?_⟩
 have h3 := rwD_one 8 h
 obtain ⟨f1, f2, f3, f4⟩ := dfit h2
 unfold rowR
 rw [f4, ← f2, ← f3]
 exact h3
theorem rowDD_two {bs : List Nat} (h8 : U8 bs) {a : Nat} {b : Bool} (h : (rowDD bs a b 3 true).bad = false) : b = false ∧ (rowR (bs.drop a) 6).2 = bs.drop (rowDD bs a b 3 true).at_ ∧ cuR (rowR (bs.drop a) 6).1 = (rowDD bs a b 3 true).u ∧ cdR (rowR (bs.drop a) 6).1 = (rowDD bs a b 3 true).d := by
 obtain ⟨h1, h2⟩ := or_false (rwD_mono 8 h)
 refine ⟨h1, ?_⟩
 have h3 := rwD_two h8 8 h
 obtain ⟨f1, f2, f3, f4⟩ := dfit h2
 unfold rowR
 rw [f4, ← f2, ← f3]
 exact h3
theorem drop_head {bs : List Nat} {a x : Nat} {l : List Nat} (e : bs.drop a = x :: l) : dbad bs a 1 = false ∧ dnum bs a 1 = x ∧ bs.drop (dat bs a 1) = l := by
 have hl : a + 1 ≤ bs.length := by
  have := congrArg List.length e
  rw [List.length_drop, List.length_cons] at this
  omega
 have d : dbad bs a 1 = false := by unfold dbad; exact decide_eq_false (by omega)
 obtain ⟨f1, f2, f3, f4⟩ := dfit d
 refine ⟨d, ?_, ?_⟩
 ·rw [f2, e]; simp [leV]
 ·rw [f3, ← f4, e]; rfl
theorem rowDD_good1 {bs : List Nat} {wd a : Nat} {r : List Int} (h : Rw wd r) {tl : List Nat} (e : bs.drop a = rowB r wd ++ tl) : (rowDD bs a false wd false).bad = false ∧ (rowDD bs a false wd false).u = r ∧ bs.drop (rowDD bs a false wd false).at_ = tl := by
 obtain ⟨d1, d2, d3⟩ := drop_head (show bs.drop a = mk8 r 8 :: (nb8 r wd 8 ++ tl) from e)
 have hb : (rowDD bs a false wd false).bad = false := by
  unfold rowDD
  rw [d1, d2]
  exact rwD_good1 h d3 8 (Nat.le_refl _)
 have h2 := (rowDD_one hb).2
 rw [e, rowR_back h] at h2
 exact ⟨hb, (congrArg Prod.fst h2).symm, (congrArg Prod.snd h2).symm⟩
theorem rowDD_good2 {bs : List Nat} (h8 : U8 bs) {a : Nat} {r : List Int} (h : Rw 6 r) {tl : List Nat} (e : bs.drop a = rowB r 6 ++ tl) : (rowDD bs a false 3 true).bad = false ∧ bs.drop (rowDD bs a false 3 true).at_ = tl := by
 obtain ⟨d1, d2, d3⟩ := drop_head (show bs.drop a = mk8 r 8 :: (nb8 r 6 8 ++ tl) from e)
 have hb : (rowDD bs a false 3 true).bad = false := by
  unfold rowDD
  rw [d1, d2]
  exact rwD_good2 h8 h d3 8 (Nat.le_refl _)
 have h2 := (rowDD_two h8 hb).2.1
 rw [e, rowR_back h] at h2
 exact ⟨hb, h2.symm⟩
end Go.Proofs.YtdbeeikjngnnnaaGreat.ty
