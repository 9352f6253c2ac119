import Derived.Test.YtdbeeikjngnnnaaGreatC46
namespace Go.Proofs.YtdbeeikjngnnnaaGreat.ty
open Go.ChangeShapes Go.WideShapes Go.ChangeAt Go.RowKit
set_option linter.unusedVariables false
set_option linter.unusedSimpArgs false
set_option maxRecDepth 100000
set_option maxHeartbeats 8000000
structure Wk where
 key : ByteArray
 dead : Bool
 sl : Sl
 bs : List Nat
def Wk.vs (x : Wk) : List Value := [.int .i64 0, .int .i64 0, .string x.key, .bool x.dead, .slice x.sl.p x.sl.n x.sl.c, .slice none 0 0]
def z92 : Array Value := #[.int .i64 0, .int .i64 0, .string ⟨#[]⟩, .bool false, .slice none 0 0, .slice none 0 0]
theorem size92 : (Tryz.prog.info? 92).map (·.size) = some 6 := by kernel_rfl
structure Ws (w : World) (s : Sl) (xs : List Wk) : Prop where
 len : s.n = xs.length
 at_ : ∀ q x, xs[q]? = some x → ∃ P off, s.p = some ⟨P, off, none⟩ ∧ P < w.heap.size ∧ w.rangeAt P (off + q * 6) x.vs ∧ Gv w x.sl x.bs ∧ x.sl.n ≤ x.sl.c
theorem Ws.kept0 {w w' : World} {s : Sl} {xs : List Wk} (h : Ws w s xs) (a : Apart [] w w') : Ws w' s xs := ⟨h.len, fun q x hx => by
 obtain ⟨P, off, e1, e2, e3, e4, e5⟩ := h.at_ q x hx
 exact ⟨P, off, e1, Nat.lt_of_lt_of_le e2 a.size, fun j v hj => (a.cell e2 (by simp)).trans (e3 j v hj), e4.kept0 a, e5⟩⟩
theorem ex_load92 {W : World} {eval : Operand → Value} {op : Oper} (x : Operand) (ho : op.op = .load 92 x) (b o : Nat) (cs : List Value) (hx : eval x = .pointer (some ⟨b, o, none⟩)) (hc : W.rangeAt b o cs) (hl : cs.length = 6) : (execOp eval op).run Tryz.prog W = .ok (.value (.agg cs.toArray)) W := by
 unfold execOp
 simp only [ho, hx, Instr.loadAt, Instr.sureAddr, Sem.run_bind, Sem.run_pure, Result.andThen_ok, run_loadVar_mid W b o 92 cs _ hc Tryz.underlying92 rfl (by rw [size92, hl])]
theorem ex_idx86 {W : World} {eval : Operand → Value} {op : Oper} {p : Option Addr} {n c q : Nat} (x y : Operand) (P o : Nat) (ho : op.op = .indexAddr 86 x y) (hx : eval x = .slice p n c) (hp : p = some ⟨P, o, none⟩) (hy : eval y = .int .i64 (q : Int)) (hq : q < n) : (execOp eval op).run Tryz.prog W = .ok (.value (.pointer (some ⟨P, o + q * 6, none⟩))) W := by
 subst hp
 unfold execOp
 simp only [ho, hx, hy]
 have hq2 : ((q : Nat) : Int) < ((n : Nat) : Int) := by omega
 go_simp
theorem Wk.one (x : Wk) : x.vs.toArray.all Value.oneCell' = true := by simp [Wk.vs, Value.oneCell']
def rsV (k : Nat) : Vl → List Wk → Int × Vl
 | v, [] => (0, v)
 | v, x :: r => if x.dead = true then rsV k v r else if 64 < x.bs.length then (2, v) else if rdOk k x.bs = true then rsV k (mgV v (readV k x.bs)) r else (190, v)
structure PsY (w : World) (e : Int) (v : Vl) (x : Ending) (w' : World) : Prop where
 ok : e = 0
 out : ∃ V, x = .returned (.tuple #[.pointer (some ⟨V, 0, none⟩), .int .i64 0]) ∧ w.heap.size ≤ V ∧ Ho w' V v ∧ Iv v
 ap : Apart [] w w'
structure PsN (w : World) (e : Int) (x : Ending) (w' : World) : Prop where
 no : e ≠ 0
 eq : x = .returned (.tuple #[.pointer none, .int .i64 e])
 ap : Apart [] w w'
def PsP (w : World) (r : Int × Vl) (x : Ending) (w' : World) : Prop := PsY w r.1 r.2 x w' ∨ PsN w r.1 x w'
structure DsY (w : World) (e : Int) (v : Vl) (x : Ending) (w' : World) : Prop where
 ok : e = 0
 out : ∃ O s' ts, x = .returned (.tuple #[.pointer (some ⟨O, 0, none⟩), .int .i64 0]) ∧ w.heap.size ≤ O ∧ Dk w' O (rvO v ts) s' ∧ Rl v ts
 ap : Apart [] w w'
def DsP (w : World) (r : Int × Vl) (x : Ending) (w' : World) : Prop := DsY w r.1 r.2 x w' ∨ PsN w r.1 x w'
theorem New_ho (w : World) (k : Nat) (h1 : 1 ≤ k) (h4 : k ≤ 4) : Calls Tryz.prog 14 #[.int .i64 (k : Int)] w fun x w' => ∃ V, x = .returned (.tuple #[.pointer (some ⟨V, 0, none⟩), .int .i64 0]) ∧ w.heap.size ≤ V ∧ Ho w' V (new0 k) ∧ Apart [] w w' := (new_ok w k h1 h4).mono (by
 rintro x w' ⟨h1', h2⟩
 rw [h2]
 exact ⟨_, h1', Nat.le_refl _, Ho.new w k h1 h4, (Apart.refl [] w).alloc _⟩)
theorem readV_rl {k : Nat} (h1 : 1 ≤ k) (h4 : k ≤ 4) {bs : List Nat} (h8 : U8 bs) (hl : bs.length ≤ 64) (hr : rdOk k bs = true) : ∃ ts, Rl (readV k bs) ts := by
 have gd := (readV_gd h1 h4 h8 hl hr).1
 obtain rfl | rfl | rfl | rfl : k = 1 ∨ k = 2 ∨ k = 3 ∨ k = 4 := by omega
 ·exact ⟨[], rfl⟩
 ·obtain ⟨g1, g2, g3, g4, g5⟩ := rdOk_set h8 hl hr (cc := _) (es := _) rfl
  exact ⟨_, g1.flat, Fw.of g1.flat g5⟩
 ·obtain ⟨c, g, e⟩ : ∃ c g, readV 3 bs = .flg c g := ⟨_, _, rfl⟩
  rw [e] at gd ⊢
  obtain ⟨oc, ow⟩ : Cn c ∧ Wi g c := gd
  exact ⟨tagL ⟨#[]⟩ g 8, tagL_ts ow.1 (fun i hi => (ow.2.2 i hi).1) ⟨#[]⟩, Fw.short (by have := tagL_len ⟨#[]⟩ g 8; omega)⟩
 ·exact ⟨[], rfl⟩
theorem presolve_ok {w : World} {k : Nat} (h1 : 1 ≤ k) (h4 : k ≤ 4) {s : Sl} {xs : List Wk} (h : Ws w s xs) (hl : xs.length ≤ 1000) : Calls Tryz.prog 47 #[.int .i64 (k : Int), .slice s.p s.n s.c] w fun x w' => PsP w (rsV k (new0 k) xs) x w' := by
 have HS := hid h
 have Hkk : Hid (1 ≤ k ∧ k ≤ 4) := hid ⟨h1, h4⟩
 have HN := hid (New_ho w k h1 h4)
 obtain ⟨N, HNN⟩ : ∃ N, Hid (N = xs.length) := ⟨_, hid rfl⟩
 have hN : N ≤ 1000 := by rw [HNN.out]; exact hl
 have hsn : s.n = N := by rw [HNN.out]; exact h.len
 have Hsn := hid hsn
 rw [hsn]
 obtain ⟨R, HR⟩ : ∃ R, Hid (R = rsV k (new0 k) xs) := ⟨_, hid rfl⟩
 rw [← HR.out]
 clear h h1 h4 hl hsn
 go_enter Tryz.func47, Tryz.ntmps47
 go_upto_region 4 with (
  go_at_call 14
  refine HN.out.mono ?_
  rintro _ w1 ⟨V, rfl, hV, vV, aV⟩
  have HVw := hid hV
  have HV1 := hid vV
  have HA1 := hid aV
  clear hV vV aV)
 clear HN
 have HI0 : Hid (Iv (new0 k) ∧ (new0 k).kd = k ∧ ∃ ts, Rl (new0 k) ts) := hid ⟨Iv.new Hkk.out.1 Hkk.out.2, kd_new0 k Hkk.out.1 Hkk.out.2, [], Rl.new Hkk.out.1 Hkk.out.2⟩
 go_upto_region 5 with fail
 go_loopw [22] (fun v22 wt => ∃ (i : Nat) (vi : Vl), v22 = .int .i64 (i : Int) ∧ i ≤ N ∧ Hid (R = rsV k vi (xs.drop i)) ∧ Hid (Iv vi ∧ vi.kd = k ∧ ∃ ts, Rl vi ts) ∧ Hid (Ho wt V vi) ∧ Hid (Apart [] w wt)) (fun v22 _ => N - natV v22)
 case atStart => exact ⟨0, new0 k, rfl, Nat.zero_le _, HR, HI0, HV1, HA1⟩
 case round =>
  clear HR HI0 HV1 HA1
  obtain ⟨i, vi, rfl, hi, HR, HI, HVt, HA⟩ := hrel
  generalize wr = wt at *
  by_cases hlt : i < N
  ·have hlti : ((i : Nat) : Int) < ((N : Nat) : Int) := by omega
   obtain ⟨x, Hx⟩ : ∃ x, Hid (xs[i]? = some x) := ⟨_, hid (List.getElem?_eq_getElem (by have := HNN.out; omega))⟩
   have Hdr : Hid (xs.drop i = x :: xs.drop (i + 1)) := hid (by
    have hil : i < xs.length := by have := HNN.out; omega
    rw [List.drop_eq_getElem_cons hil]
    have h1 := Hx.out
    rw [List.getElem?_eq_getElem hil] at h1
    rw [Option.some.inj h1])
   obtain ⟨P, off, hp, hP, hrg, hgv, hcp⟩ := (HS.out.kept0 HA.out).at_ i x Hx.out
   have HPp := hid hp
   have HRg := hid hrg
   have HGv := hid hgv
   have HCp := hid hcp
   clear hp hP hrg hgv hcp
   go_upto_region 7 with (first
    | refine wpL_val rfl (.pointer (some ⟨P, off + i * 6, none⟩)) (ex_idx86 _ _ P off rfl rfl HPp.out rfl hlt) ?_
    | refine wpL_val rfl (.agg x.vs.toArray) (ex_load92 _ rfl P (off + i * 6) x.vs rfl HRg.out rfl) ?_
    | refine wpList_store_row rfl 92 _ _ rfl wt.heap.size x.vs.toArray rfl rfl 92 _ (heap_alloc_new wt _) (by rw [size92]; rfl) rfl x.one ?_)
   simp only [Act.put]
   have HB5 := hid (put_new (w := wt) (z := z92) (cs := x.vs.toArray) (T := 92))
   have HA5 := hid (put_apart (w := wt) (z := z92) (cs := x.vs.toArray) (T := 92))
   unfold z92 at HB5 HA5
   obtain ⟨A, HAe⟩ : ∃ A, Hid (A = wt.heap.size) := ⟨_, hid rfl⟩
   rw [← HAe.out] at HB5 HA5 ⊢
   generalize (wt.alloc (.cells #[.int .i64 0, .int .i64 0, .string ⟨#[]⟩, .bool false, .slice none 0 0, .slice none 0 0] 92)).setRow A x.vs.toArray = w5 at *
   clear HAe
   have HV5 := hid (HVt.out.kept0 HA5.out)
   have HA05 := hid (HA.out.trans HA5.out)
   have HG5 := hid (HGv.out.kept0 HA5.out)
   obtain ⟨dd, Hdd⟩ : ∃ b, Hid (b = x.dead) := ⟨_, hid rfl⟩
   have z3 : w5.cell? ⟨A, 3, none⟩ = some (.bool dd) := by rw [cell_of_row _ _ _ _ _ _ HB5.out, Hdd.out]; rfl
   have z4 : w5.cell? ⟨A, 4, none⟩ = some (.slice x.sl.p x.sl.n x.sl.c) := zK HB5.out
   have Hst : Hid (R = if x.dead = true then rsV k vi (xs.drop (i + 1)) else if 64 < x.bs.length then (2, vi) else if rdOk k x.bs = true then rsV k (mgV vi (readV k x.bs)) (xs.drop (i + 1)) else (190, vi)) := hid (by rw [HR.out, Hdr.out]; rfl)
   clear HR
   cases hdd : dd
   case true =>
    rw [hdd] at z3
    have HR2 : Hid (R = rsV k vi (xs.drop (i + 1))) := hid (by rw [Hst.out, if_pos (by rw [← Hdd.out]; exact hdd)])
    go_wp2_with fail
    exact ⟨⟨i + 1, vi, by go_num, by omega, HR2, HI, HV5, HA05⟩, by simp [natV]; omega⟩
   case false =>
    rw [hdd] at z3
    have Hnd : Hid (¬ x.dead = true) := hid (by rw [← Hdd.out, hdd]; exact Bool.false_ne_true)
    by_cases hl : 64 < x.bs.length
    ·have HR2 : Hid (R = (2, vi)) := hid (by rw [Hst.out, if_neg Hnd.out, if_pos hl])
     have HC := hid (Read_long (w := w5) k Hkk.out.1 Hkk.out.2 x.sl.p x.sl.n x.sl.c (by have := HG5.out.len; omega))
     clear hl
     go_wp2_with (
      go_at_call 45
      refine HC.out.mono ?_
      rintro _ w6 ⟨rfl, hw6⟩
      rw [hw6]
      clear hw6)
     go_ret2
     rw [HR2.out]
     exact .inr ⟨by show (2 : Int) ≠ 0; decide, rfl, HA05.out⟩
    ·have Hll : Hid (x.bs.length ≤ 64) := hid (by omega)
     have HRdy : Hid (Rdy k w5 x.sl x.bs) := hid ⟨HG5.out.rd, HG5.out.len, HG5.out.ok, HCp.out, HG5.out.u8, Hll.out⟩
     cases hr : rdOk k x.bs
     case false =>
      have HR2 : Hid (R = (190, vi)) := hid (by rw [Hst.out, if_neg Hnd.out, if_neg hl, if_neg (by rw [hr]; exact Bool.false_ne_true)])
      have HC := hid (Read_bad k Hkk.out.1 Hkk.out.2 HRdy.out hr)
      clear hl hr
      go_wp2_with (
       go_at_call 45
       refine HC.out.mono ?_
       rintro _ w6 ⟨rfl, a6⟩
       have HA6 := hid (HA05.out.trans a6)
       clear a6)
      go_ret2
      rw [HR2.out]
      exact .inr ⟨by show (190 : Int) ≠ 0; decide, rfl, HA6.out⟩
     case true =>
      have HR2 : Hid (R = rsV k (mgV vi (readV k x.bs)) (xs.drop (i + 1))) := hid (by rw [Hst.out, if_neg Hnd.out, if_neg hl, if_pos hr])
      have HC := hid (Read_ok k Hkk.out.1 Hkk.out.2 HRdy.out hr)
      have HIr : Hid (Iv (readV k x.bs) ∧ (readV k x.bs).kd = k) := hid ⟨readV_iv Hkk.out.1 Hkk.out.2 HG5.out.u8 Hll.out hr, readV_kd Hkk.out.1 Hkk.out.2 _⟩
      have HGr := hid (readV_gd Hkk.out.1 Hkk.out.2 HG5.out.u8 Hll.out hr)
      have Hov : Hid (Ok vi) := hid (by obtain ⟨ts, h⟩ := HI.out.2.2; exact h.ok HI.out.1.gt.1)
      have HRr := hid (readV_rl Hkk.out.1 Hkk.out.2 HG5.out.u8 Hll.out hr)
      have Hor : Hid (Ok (readV k x.bs)) := hid (HGr.out.1.ok (by have := HGr.out.2.1; omega))
      have Hke : Hid (vi.kd = (readV k x.bs).kd) := hid (HI.out.2.1.trans HIr.out.2.symm)
      clear hl hr
      go_upto_region 11 with (
       go_at_call 45
       refine HC.out.mono ?_
       rintro _ w6 ⟨O, rfl, hO, vO, a6⟩
       have HVO := hid vO
       have HA6 := hid a6
       clear hO vO a6)
      have HV6 := hid (HV5.out.kept0 HA6.out)
      have HM := hid (Merge_v HV6.out HVO.out Hov.out Hor.out Hke.out)
      go_wp2_with (
       go_at_call 21
       refine HM.out.mono ?_
       rintro _ w7 ⟨rfl, v7, a7⟩
       have HV7 := hid v7
       have HA7 : Hid (Apart [] w w7) := hid ((HA05.out.trans HA6.out).trans' a7 (fun y hy => .inr (by rw [List.mem_singleton.1 hy]; exact HVw.out)))
       clear v7 a7)
      exact ⟨⟨i + 1, mgV vi (readV k x.bs), by go_num, by omega, HR2, hid ⟨HI.out.1.mg HIr.out.1 Hke.out, by rw [mgV_kd]; exact HI.out.2.1, by
       obtain ⟨t1, h1⟩ := HI.out.2.2
       obtain ⟨t2, h2⟩ := HRr.out
       exact ⟨_, h1.mg h2 HI.out.1 HIr.out.1 Hke.out⟩⟩, HV7, HA7⟩, by simp [natV]; omega⟩
  ·have hlti : ¬ ((i : Nat) : Int) < ((N : Nat) : Int) := by omega
   have HR2 : Hid (R = (0, vi)) := hid (by rw [HR.out, List.drop_eq_nil_of_le (by have := HNN.out; omega)]; rfl)
   go_wp2_with fail
   go_ret2
   rw [HR2.out]
   exact .inl ⟨rfl, ⟨V, rfl, HVw.out, HVt.out, HI.out.1⟩, HA.out⟩
theorem dresolve_ok {w : World} {k : Nat} (h1 : 1 ≤ k) (h4 : k ≤ 4) {s : Sl} {xs : List Wk} (h : Ws w s xs) (hl : xs.length ≤ 1000) : Calls Tryz.prog 48 #[.int .i64 (k : Int), .slice s.p s.n s.c] w fun x w' => DsP w (rsV k (new0 k) xs) x w' := by
 have HS := hid h
 have Hkk : Hid (1 ≤ k ∧ k ≤ 4) := hid ⟨h1, h4⟩
 have HN := hid (rnew_ok w k h1 h4)
 obtain ⟨N, HNN⟩ : ∃ N, Hid (N = xs.length) := ⟨_, hid rfl⟩
 have hN : N ≤ 1000 := by rw [HNN.out]; exact hl
 have hsn : s.n = N := by rw [HNN.out]; exact h.len
 have Hsn := hid hsn
 rw [hsn]
 obtain ⟨R, HR⟩ : ∃ R, Hid (R = rsV k (new0 k) xs) := ⟨_, hid rfl⟩
 rw [← HR.out]
 clear h h1 h4 hl hsn
 go_enter Tryz.func48, Tryz.ntmps48
 go_upto_region 4 with (
  go_at_call 19
  refine HN.out.mono ?_
  rintro _ w1 ⟨O0, rfl, hO, dO, aO⟩
  have HO0w := hid hO
  have HD1 : Hid (Dk w1 O0 (rvO (new0 k) []) ⟨none, 0, 0⟩) := hid (by rw [rvO_new Hkk.out.1 Hkk.out.2]; exact dk0' dO)
  have HA1 := hid aO
  clear hO dO aO)
 clear HN
 have HI0 : Hid (Iv (new0 k) ∧ (new0 k).kd = k ∧ Rl (new0 k) []) := hid ⟨Iv.new Hkk.out.1 Hkk.out.2, kd_new0 k Hkk.out.1 Hkk.out.2, Rl.new Hkk.out.1 Hkk.out.2⟩
 go_upto_region 5 with fail
 go_loopw [6, 8] (fun v6 v8 wt => ∃ (i O : Nat) (vi : Vl) (ts : List Tg) (so : Sl), v6 = .pointer (some ⟨O, 0, none⟩) ∧ v8 = .int .i64 (i : Int) ∧ i ≤ N ∧ Hid (R = rsV k vi (xs.drop i)) ∧ Hid (Iv vi ∧ vi.kd = k ∧ Rl vi ts) ∧ Hid (Dk wt O (rvO vi ts) so) ∧ Hid (w.heap.size ≤ O) ∧ Hid (Apart [] w wt)) (fun _ v8 _ => N - natV v8)
 case atStart => exact ⟨0, O0, new0 k, [], ⟨none, 0, 0⟩, rfl, rfl, Nat.zero_le _, HR, HI0, HD1, HO0w, HA1⟩
 case round =>
  clear HR HI0 HD1 HO0w HA1
  obtain ⟨i, O, vi, ts, so, rfl, rfl, hi, HR, HI, HDt, HOw, HA⟩ := hrel
  generalize wr = wt at *
  by_cases hlt : i < N
  ·have hlti : ((i : Nat) : Int) < ((N : Nat) : Int) := by omega
   obtain ⟨x, Hx⟩ : ∃ x, Hid (xs[i]? = some x) := ⟨_, hid (List.getElem?_eq_getElem (by have := HNN.out; omega))⟩
   have Hdr : Hid (xs.drop i = x :: xs.drop (i + 1)) := hid (by
    have hil : i < xs.length := by have := HNN.out; omega
    rw [List.drop_eq_getElem_cons hil]
    have h1 := Hx.out
    rw [List.getElem?_eq_getElem hil] at h1
    rw [Option.some.inj h1])
   obtain ⟨P, off, hp, hP, hrg, hgv, hcp⟩ := (HS.out.kept0 HA.out).at_ i x Hx.out
   have HPp := hid hp
   have HGv := hid hgv
   have HCp := hid hcp
   obtain ⟨dd, Hdd⟩ : ∃ b, Hid (b = x.dead) := ⟨_, hid rfl⟩
   have z3 : wt.cell? ⟨P, off + i * 6 + 3, none⟩ = some (.bool dd) := by rw [Hdd.out]; exact hrg 3 _ rfl
   have z4 : wt.cell? ⟨P, off + i * 6 + 4, none⟩ = some (.slice x.sl.p x.sl.n x.sl.c) := hrg 4 _ rfl
   clear hp hP hrg hgv hcp
   have Hst : Hid (R = if x.dead = true then rsV k vi (xs.drop (i + 1)) else if 64 < x.bs.length then (2, vi) else if rdOk k x.bs = true then rsV k (mgV vi (readV k x.bs)) (xs.drop (i + 1)) else (190, vi)) := hid (by rw [HR.out, Hdr.out]; rfl)
   clear HR
   cases hdd : dd
   case true =>
    rw [hdd] at z3
    have HR2 : Hid (R = rsV k vi (xs.drop (i + 1))) := hid (by rw [Hst.out, if_pos (by rw [← Hdd.out]; exact hdd)])
    go_wp2_with (refine wpL_val rfl (.pointer (some ⟨P, off + i * 6, none⟩)) (ex_idx86 _ _ P off rfl rfl HPp.out rfl hlt) ?_)
    exact ⟨⟨i + 1, O, vi, ts, so, rfl, by go_num, by omega, HR2, HI, HDt, HOw, HA⟩, by simp [natV]; omega⟩
   case false =>
    rw [hdd] at z3
    have Hnd : Hid (¬ x.dead = true) := hid (by rw [← Hdd.out, hdd]; exact Bool.false_ne_true)
    by_cases hl : 64 < x.bs.length
    ·have HR2 : Hid (R = (2, vi)) := hid (by rw [Hst.out, if_neg Hnd.out, if_pos hl])
     have HC := hid (dRead_long (w := wt) Hkk.out.1 Hkk.out.2 x.sl.p x.sl.n x.sl.c (by have := HGv.out.len; omega))
     clear hl
     go_wp2_with (first
      | refine wpL_val rfl (.pointer (some ⟨P, off + i * 6, none⟩)) (ex_idx86 _ _ P off rfl rfl HPp.out rfl hlt) ?_
      | (go_at_call 46
         refine HC.out.mono ?_
         rintro _ w6 ⟨rfl, a6⟩
         have HA6 := hid (HA.out.trans a6)
         clear a6))
     go_ret2
     rw [HR2.out]
     exact .inr ⟨by show (2 : Int) ≠ 0; decide, rfl, HA6.out⟩
    ·have Hll : Hid (x.bs.length ≤ 64) := hid (by omega)
     have HC0 := dRead_any Hkk.out.1 Hkk.out.2 HGv.out HCp.out Hll.out
     cases hr : rdOk k x.bs
     case false =>
      have HR2 : Hid (R = (190, vi)) := hid (by rw [Hst.out, if_neg Hnd.out, if_neg hl, if_neg (by rw [hr]; exact Bool.false_ne_true)])
      have HC : Hid (Calls Tryz.prog 46 #[.int .i64 (k : Int), .slice x.sl.p x.sl.n x.sl.c] wt fun x w' => x = .returned (.tuple #[.pointer none, .int .i64 190]) ∧ Apart [] wt w') := hid (HC0.mono (by
       rintro x w' (⟨q, -, -⟩ | ⟨-, q2, q3⟩)
       ·rw [hr] at q; cases q
       ·exact ⟨q2, q3⟩))
      clear hl hr HC0
      go_wp2_with (first
       | refine wpL_val rfl (.pointer (some ⟨P, off + i * 6, none⟩)) (ex_idx86 _ _ P off rfl rfl HPp.out rfl hlt) ?_
       | (go_at_call 46
          refine HC.out.mono ?_
          rintro _ w6 ⟨rfl, a6⟩
          have HA6 := hid (HA.out.trans a6)
          clear a6))
      go_ret2
      rw [HR2.out]
      exact .inr ⟨by show (190 : Int) ≠ 0; decide, rfl, HA6.out⟩
     case true =>
      have HR2 : Hid (R = rsV k (mgV vi (readV k x.bs)) (xs.drop (i + 1))) := hid (by rw [Hst.out, if_neg Hnd.out, if_neg hl, if_pos hr])
      have HC : Hid (Calls Tryz.prog 46 #[.int .i64 (k : Int), .slice x.sl.p x.sl.n x.sl.c] wt fun y w' => ∃ O2, y = .returned (.tuple #[.pointer (some ⟨O2, 0, none⟩), .int .i64 0]) ∧ Hid (∃ s2 t2, Dk w' O2 (rvO (readV k x.bs) t2) s2 ∧ Rl (readV k x.bs) t2) ∧ Apart [] wt w') := hid (HC0.mono (by
       rintro y w' (⟨-, ⟨O2, s2, t2, q1, q2, q3, q4⟩, q5⟩ | ⟨q, -, -⟩)
       ·exact ⟨O2, q1, hid ⟨s2, t2, q3, q4⟩, q5⟩
       ·rw [hr] at q; cases q))
      have HIr : Hid (Iv (readV k x.bs) ∧ (readV k x.bs).kd = k) := hid ⟨readV_iv Hkk.out.1 Hkk.out.2 HGv.out.u8 Hll.out hr, readV_kd Hkk.out.1 Hkk.out.2 _⟩
      have Hke : Hid (vi.kd = (readV k x.bs).kd) := hid (HI.out.2.1.trans HIr.out.2.symm)
      clear hl hr HC0
      go_upto_region 11 with (first
       | refine wpL_val rfl (.pointer (some ⟨P, off + i * 6, none⟩)) (ex_idx86 _ _ P off rfl rfl HPp.out rfl hlt) ?_
       | (go_at_call 46
          refine HC.out.mono ?_
          rintro _ w6 ⟨O2, rfl, d6, a6⟩
          have HX6 := hid d6.out
          have HA6 := hid a6
          clear d6 a6))
      obtain ⟨s2, t2, hd2, hr2⟩ := HX6.out
      have HD2 := hid hd2
      have Hr2 := hid hr2
      clear hd2 hr2
      have HD6 := hid (HDt.out.kept0 HA6.out)
      have HM := hid (rmerge_ok HD6.out HD2.out (by rw [rvO_k, rvO_k]; exact Hke.out) (by rw [rvO_ts]; exact HI.out.2.2.to) (by rw [rvO_ts]; exact Hr2.out.to) (by rw [rvO_ts]; have := HI.out.2.2.len; omega) (by rw [rvO_ts]; have := Hr2.out.len; omega))
      have Hmg := hid (rvO_mg HI.out.2.2 Hr2.out HI.out.1 HIr.out.1 Hke.out)
      rw [Hmg.out] at HM
      go_wp2_with (
       go_at_call 22
       refine HM.out.mono ?_
       rintro _ w7 ⟨X, rfl, hX, a7, sX, kX⟩
       have HDX := hid kX
       have HA7 := hid a7
       have HXw := hid hX
       clear kX a7 hX)
      exact ⟨⟨i + 1, X, mgV vi (readV k x.bs), _, sX, rfl, by go_num, by omega, HR2, hid ⟨HI.out.1.mg HIr.out.1 Hke.out, by rw [mgV_kd]; exact HI.out.2.1, HI.out.2.2.mg Hr2.out HI.out.1 HIr.out.1 Hke.out⟩, HDX, hid (Nat.le_trans (HA.out.trans HA6.out).size HXw.out), hid ((HA.out.trans HA6.out).trans HA7.out)⟩, by simp [natV]; omega⟩
  ·have hlti : ¬ ((i : Nat) : Int) < ((N : Nat) : Int) := by omega
   have HR2 : Hid (R = (0, vi)) := hid (by rw [HR.out, List.drop_eq_nil_of_le (by have := HNN.out; omega)]; rfl)
   go_wp2_with fail
   go_ret2
   rw [HR2.out]
   exact .inl ⟨rfl, ⟨O, so, ts, rfl, HOw.out, HDt.out, HI.out.2.2⟩, HA.out⟩
structure Gb (wB w : World) (x : Wk) : Prop where
 gv : Gv w x.sl x.bs
 cp : x.sl.n ≤ x.sl.c
 bl : ∀ P o, x.sl.p = some ⟨P, o, none⟩ ∧ x.bs ≠ [] → P < wB.heap.size ∨ ∃ cur m, w.heap[P]? = some (.cells cur 5 m)
def Nb (wB w : World) (X : List Nat) : Prop := ∀ P ∈ X, wB.heap.size ≤ P ∧ ∀ cur m, w.heap[P]? ≠ some (.cells cur 5 m)
theorem Gb.kept {wB w w' : World} {x : Wk} {X : List Nat} (h : Gb wB w x) (a : Apart X w w') (hX : Nb wB w X) : Gb wB w' x := by
 have hn : ∀ P o, x.sl.p = some ⟨P, o, none⟩ ∧ x.bs ≠ [] → P ∉ X := fun P o e hm => by
  rcases h.bl P o e with h1 | ⟨cur, m, h1⟩
  ·have := (hX P hm).1; omega
  ·exact (hX P hm).2 cur m h1
 refine ⟨h.gv.keptX a hn, h.cp, fun P o e => ?_⟩
 rcases h.bl P o e with h1 | ⟨cur, m, h1⟩
 ·exact .inl h1
 ·exact .inr ⟨cur, m, (a.block P (lt_of_heapM h1) (hn P o e)).trans h1⟩
theorem Gb.kept0 {wB w w' : World} {x : Wk} (h : Gb wB w x) (a : Apart [] w w') : Gb wB w' x := h.kept a (fun P hP => by simp at hP)
def wrL : List Wk → List Value
 | [] => []
 | x :: r => x.vs ++ wrL r
theorem wrL_len : ∀ l, (wrL l).length = l.length * 6
 | [] => rfl
 | x :: r => by simp only [wrL, List.length_append, wrL_len r, List.length_cons, Wk.vs, List.length_nil]; omega
theorem wrL_app (a b : List Wk) : wrL (a ++ b) = wrL a ++ wrL b := by
 induction a with
 | nil => rfl
 | cons t r ih => simp [wrL, ih, List.append_assoc]
theorem wrL_at : ∀ (l : List Wk) {q j : Nat} {x : Wk}, l[q]? = some x → j < 6 → (wrL l)[q * 6 + j]? = x.vs[j]?
 | [], q, j, t, h, _ => by simp at h
 | x :: r, 0, j, t, h, hj => by
  obtain rfl : x = t := by simpa using h
  rw [Nat.zero_mul, Nat.zero_add, wrL, List.getElem?_append_left (by simpa [Wk.vs] using hj)]
 | x :: r, q + 1, j, t, h, hj => by
  rw [List.getElem?_cons_succ] at h
  rw [wrL, List.getElem?_append_right (by simp [Wk.vs]; omega)]
  have : (q + 1) * 6 + j - (x.vs).length = q * 6 + j := by simp [Wk.vs]; omega
  rw [this]
  exact wrL_at r h hj
theorem wrL_one {xs : List Wk} : ∀ u ∈ wrL xs, u.oneCell' = true := by
 induction xs with
 | nil => intro u hu; simp [wrL] at hu
 | cons t r ih =>
  intro u hu
  rcases List.mem_append.1 hu with hu | hu
  ·simp [Wk.vs] at hu
   rcases hu with rfl | rfl | rfl | rfl | rfl | rfl <;> rfl
  ·exact ih u hu
structure Wr (wB w : World) (s : Sl) (xs : List Wk) : Prop where
 nw : Nw wB w 92 6 s (wrL xs)
 len : s.n = xs.length
 gb : ∀ x ∈ xs, Gb wB w x
theorem Wr.nil (wB w : World) (a : Apart [] wB w) : Wr wB w ⟨none, 0, 0⟩ [] := ⟨⟨World.ownsRow_nil _ _ _ _, by simp [Sl.v, Value.ownBlock], a⟩, rfl, by simp⟩
theorem Wr.kept0 {wB w w' : World} {s : Sl} {xs : List Wk} (h : Wr wB w s xs) (a : Apart [] w w') : Wr wB w' s xs := ⟨h.nw.kept a, h.len, fun x hx => (h.gb x hx).kept0 a⟩
theorem Wr.nb {wB w : World} {s : Sl} {xs : List Wk} (h : Wr wB w s xs) : Nb wB w s.v.ownBlock.toList := fun P hP => by
 have hP' : s.v.ownBlock = some P := by simpa using hP
 refine ⟨h.nw.new P hP', fun cur m e => ?_⟩
 obtain ⟨c, e2⟩ := own_typ h.nw.own hP'
 rw [e] at e2
 simp at e2
theorem Wr.kept {wB w w' : World} {s : Sl} {xs : List Wk} {X : List Nat} (h : Wr wB w s xs) (a : Apart X w w') (hX : Nb wB w X) (hs : ∀ P, s.v.ownBlock = some P → P ∉ X) : Wr wB w' s xs := ⟨⟨own_apart h.nw.own a hs, h.nw.new, h.nw.ap.trans' a (fun y hy => .inr (hX y hy).1)⟩, h.len, fun x hx => (h.gb x hx).kept a hX⟩
theorem Wr.ws {wB w : World} {s : Sl} {xs : List Wk} (h : Wr wB w s xs) : Ws w s xs := ⟨h.len, fun q x hx => by
 have hq := (List.getElem?_eq_some_iff.1 hx).1
 obtain ⟨P, o, e1, e2, e3⟩ := Rd.own h.nw.own (by rw [wrL_len]; omega)
 have g := h.gb x (List.mem_of_getElem? hx)
 refine ⟨P, o, e1, e2, fun j v hj => ?_, g.gv, g.cp⟩
 have hj6 : j < 6 := (List.getElem?_eq_some_iff.1 hj).1
 rw [Nat.add_assoc]
 exact e3 (q * 6 + j) v (by rw [wrL_at xs hx hj6]; exact hj)⟩
theorem info92b : (Tryz.prog.info? 92).map (fun i => (i.zero, i.size, i.bytes)) = some (some (.agg z92), 6, 88) := by kernel_rfl
def Wk.core (x : Wk) : ByteArray × Bool × List Nat := (x.key, x.dead, x.bs)
theorem rsV_core (k : Nat) : ∀ {xs ys : List Wk} (v : Vl), xs.map Wk.core = ys.map Wk.core → rsV k v xs = rsV k v ys
 | [], [], v, _ => rfl
 | [], y :: r, v, h => by simp at h
 | x :: q, [], v, h => by simp at h
 | x :: q, y :: r, v, h => by
  simp only [List.map_cons, List.cons.injEq] at h
  obtain ⟨h1, h2⟩ := h
  unfold Wk.core at h1
  simp only [Prod.mk.injEq] at h1
  obtain ⟨-, e1, e2⟩ := h1
  unfold rsV
  rw [e1, e2, rsV_core k v h2, rsV_core k _ h2]
theorem Gb.gone (wB w : World) (key : ByteArray) (dead : Bool) : Gb wB w ⟨key, dead, ⟨none, 0, 0⟩, []⟩ := ⟨⟨Rd.nil _ _, rfl, fun _ => ⟨rfl, rfl⟩, fun u hu => by simp at hu, by simp⟩, Nat.le_refl _, fun P o h => by cases h.1⟩
theorem Gb.old {wB : World} {sl : Sl} {bs : List Nat} (gv : Gv wB sl bs) (hc : sl.n ≤ sl.c) (key : ByteArray) (dead : Bool) : Gb wB wB ⟨key, dead, sl, bs⟩ := ⟨gv, hc, fun P o h => .inl (by
 have h0 : 0 < (byts bs).length := by rw [byts_len]; exact List.length_pos_iff.2 h.2
 obtain ⟨P2, o2, e1, hP, -⟩ := gv.rd h0
 have h1 : sl.p = some ⟨P, o, none⟩ := h.1
 rw [h1] at e1
 simp at e1
 rw [e1.1]
 exact hP)⟩
theorem Gb.bf {wB w0 w : World} {s : Sl} {us : List Nat} (b : Bf w0 w s us) (h8 : U8 us) (hl : us.length ≤ 2000000) (key : ByteArray) (dead : Bool) : Gb wB w ⟨key, dead, s, us⟩ := ⟨⟨b.nw.rd, b.len.symm, b.nw.ok, h8, hl⟩, b.nw.cap, fun P o h => .inr (by
 have h1 : s.p = some ⟨P, o, none⟩ := h.1
 obtain ⟨cur, h2⟩ := own_typ b.nw.own (k := P) (by simp [Sl.v, h1, Value.ownBlock])
 exact ⟨cur, _, h2⟩)⟩
theorem Wr.lt {wB w : World} {s : Sl} {xs : List Wk} (h : Wr wB w s xs) {P : Nat} (hP : s.v.ownBlock = some P) : P < w.heap.size := by
 obtain ⟨c, e⟩ := own_typ h.nw.own hP
 exact lt_of_heapM e
structure Two (wB w : World) (s t : Sl) (xs ys : List Wk) : Prop where
 a : Wr wB w s xs
 b : Wr wB w t ys
 co : xs.map Wk.core = ys.map Wk.core
 dj : ∀ P, s.v.ownBlock = some P → t.v.ownBlock ≠ some P
theorem Two.kept0 {wB w w' : World} {s t : Sl} {xs ys : List Wk} (h : Two wB w s t xs ys) (a : Apart [] w w') : Two wB w' s t xs ys := ⟨h.a.kept0 a, h.b.kept0 a, h.co, h.dj⟩
theorem app_pair {wB W : World} {s t : Sl} {xs ys : List Wk} (h1 : Wr wB W s xs) (h2 : Wr wB W t ys) (dj : ∀ P, s.v.ownBlock = some P → t.v.ownBlock ≠ some P) {x : Wk} (hx : Gb wB W x) (hl : s.n ≤ 1000000) :
  ∃ s' W', (Builtin.append_ #[86, 86] 86 #[.slice s.p s.n s.c, .slice (some ⟨W.heap.size, 0, none⟩) 1 1]).run Tryz.prog (W.alloc (.cells x.vs.toArray 92)) = .ok (.slice s'.p s'.n s'.c) W' ∧ Wr wB W' s' (xs ++ [x]) ∧ Wr wB W' t ys ∧ (∀ P, s'.v.ownBlock = some P → t.v.ownBlock ≠ some P) ∧ s'.n = s.n + 1 ∧ Apart [] wB W' ∧ (∀ y, Gb wB W y → Gb wB W' y) := by
 obtain ⟨i0, hif, hz0, hz1, hz2⟩ := info_of info92b
 obtain ⟨s5, w5, hrun, hnw5, hs5, ap5, k5, hk5, -, hk6⟩ := run_appM (s := s) 86 86 92 i0 _ 6 88 Tryz.underlying86 hif hz0 hz1 hz2 rfl (by decide) h1.nw 1 (wrL [x]) (by decide) rfl wrL_one (by unfold maxLen; omega) (by omega)
 have e1 : (wrL [x]).toArray = x.vs.toArray := by simp [wrL]
 refine ⟨s5, w5, by rw [← e1]; exact hrun, ⟨by rw [wrL_app]; exact hnw5, by rw [hs5, List.length_append, h1.len]; rfl, fun y hy => ?_⟩, h2.kept ap5 h1.nb (fun P hP hm => dj P (by simpa using hm) hP), fun P hP hP2 => ?_, hs5, hnw5.ap, fun y hy => hy.kept ap5 h1.nb⟩
 ·rcases List.mem_append.1 hy with hy | hy
  ·exact (h1.gb y hy).kept ap5 h1.nb
  ·rw [List.mem_singleton.1 hy]
   exact hx.kept ap5 h1.nb
 ·have e : k5 = P := by
   simp [Sl.v, hk5, Value.ownBlock] at hP
   exact hP
  rw [e] at hk6
  rcases hk6 with h | h
  ·exact dj P h hP2
  ·have := h2.lt hP2
   omega
theorem copy_wk {wB W : World} {s : Sl} {xs : List Wk} (h : Wr wB W s xs) (hl : s.n ≤ 1000000) :
  ∃ s' W', (Builtin.append_ #[86, 86] 86 #[.slice none 0 0, .slice s.p s.n s.c]).run Tryz.prog W = .ok (.slice s'.p s'.n s'.c) W' ∧ Wr wB W' s' xs ∧ Apart [] W W' ∧ s'.n = s.n ∧ (∀ P, s'.v.ownBlock = some P → W.heap.size ≤ P) := by
 obtain ⟨i0, hif, hz0, hz1, hz2⟩ := info_of info92b
 obtain ⟨s', w', hrun, n', l'⟩ := run_appNil W 86 86 92 i0 _ 6 88 Tryz.underlying86 hif hz0 hz1 hz2 rfl (by decide) s (wrL xs) h.nw.rd (by rw [wrL_len, h.len]) wrL_one (by omega) (by omega) h.nw.ok
 exact ⟨s', w', hrun, ⟨⟨n'.own, fun P hP => Nat.le_trans h.nw.ap.size (n'.new P hP), h.nw.ap.trans n'.ap⟩, by rw [l', h.len], fun x hx => (h.gb x hx).kept0 n'.ap⟩, n'.ap, l', n'.new⟩
end Go.Proofs.YtdbeeikjngnnnaaGreat.ty
