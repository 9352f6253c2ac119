import Derived.Test.YtdbeeikjngnnnaaGreatC22
import Derived.Test.YtdbeeikjngnnnaaGreatC23
import Derived.Test.YtdbeeikjngnnnaaGreatC24
namespace Go.Proofs.YtdbeeikjngnnnaaGreat.ty
open Go.ChangeShapes Go.WideShapes Go.ChangeAt Go.RowKit
set_option linter.unusedVariables false
set_option linter.unusedSimpArgs false
set_option maxRecDepth 100000
set_option maxHeartbeats 8000000
theorem Dv.stamp {w : World} {O : Nat} {r : Rv} {s : Sl} (h : Dv w O r s) : w.cell? ⟨O, 26, none⟩ = some (.int .i64 r.st) := h.rest (i := 1) rfl
theorem Dv.actor {w : World} {O : Nat} {r : Rv} {s : Sl} (h : Dv w O r s) : w.cell? ⟨O, 27, none⟩ = some (.int .i64 r.ac) := h.rest (i := 2) rfl
theorem Dv.text {w : World} {O : Nat} {r : Rv} {s : Sl} (h : Dv w O r s) : w.cell? ⟨O, 28, none⟩ = some (.string r.tx) := h.rest (i := 3) rfl
theorem ex_load60 {W : World} {eval : Operand → Value} {op : Oper} (x : Operand) (ho : op.op = .load 60 x) (b o : Nat) (cs : List Value) (hx : eval x = .pointer (some ⟨b, o, none⟩)) (hc : W.rangeAt b o cs) (hl : cs.length = 8) : (execOp eval op).run Tryz.prog W = .ok (.value (.agg cs.toArray)) W := by
 unfold execOp
 simp only [ho, hx, Instr.loadAt, Instr.sureAddr, Sem.run_bind, Sem.run_pure, Result.andThen_ok, run_loadVar_mid W b o 60 cs _ hc Tryz.underlying60 rfl (by rw [size60, hl])]
theorem Bf.one (w : World) (x : Nat) : Bf w (w.alloc (.cells #[.int .u8 (x : Int)] 5)) ⟨some ⟨w.heap.size, 0, none⟩, 1, 1⟩ [x] :=
 ⟨⟨⟨rfl, .inr ⟨w.heap.size, 1, _, rfl, Nat.zero_le _, heap_alloc_new w _, Nat.le_refl _, by unfold maxLen; omega, rfl, rfl⟩⟩, fun k hk => by simp [Sl.v, Value.ownBlock] at hk; rw [← hk]; exact Nat.le_refl _, (Apart.refl [] w).alloc _⟩, rfl⟩
theorem jl {l : List Int} {j : Nat} {v : Value} (hj : (rv l)[j]? = some v) : j < (rv l).length := by
 by_cases hc : j < (rv l).length
 ·exact hc
 ·rw [List.getElem?_eq_none (by omega)] at hj; cases hj
theorem bgU {W : World} {O : Nat} {r : Rv} {s : Sl} (hb : W.heap[O]? = some (.cells (dCells r s).toArray 63 (0, 0))) : W.rangeAt O 1 (rv r.u) := by
 intro j v hj
 have h1 := jl hj
 rw [cell_of_row _ _ _ _ _ _ hb, Nat.add_comm]
 unfold dCells
 rw [List.getElem?_toArray, List.getElem?_cons_succ, List.getElem?_append_left h1]
 exact hj
theorem bgD {W : World} {O : Nat} {r : Rv} {s : Sl} (hb : W.heap[O]? = some (.cells (dCells r s).toArray 63 (0, 0))) (lu : (rv r.u).length = 8) : W.rangeAt O 9 (rv r.d) := by
 intro j v hj
 have h1 := jl hj
 rw [cell_of_row _ _ _ _ _ _ hb, show 9 + j = (8 + j) + 1 by omega]
 unfold dCells
 rw [List.getElem?_toArray, List.getElem?_cons_succ, List.getElem?_append_right (by omega), lu, Nat.add_sub_cancel_left, List.getElem?_append_left h1]
 exact hj
def Sb (O : Nat) (r : Rv) (s : Sl) (W : World) : Prop := W.heap[O]? = some (.cells (dCells r s).toArray 63 (0, 0))
theorem dform_cnt {w : World} {O : Nat} {r : Rv} {s : Sl} (h : Dv w O r s) (hk : r.k = 1) (hu : Wd r.u) (hd : Wd r.d) : Calls Tryz.prog 44 #[.pointer (some ⟨O, 0, none⟩)] w fun x w' => ∃ s', x = .returned (.slice s'.p s'.n s'.c) ∧ Bf w w' s' (1 :: rowB (ob r.u r.d) 6) := by
 have HB1 := hid (Bf.one w 1)
 obtain ⟨w1, Hw1⟩ : ∃ W, Hid (W = w.alloc (.cells #[.int .u8 1] 5)) := ⟨_, hid rfl⟩
 have e0 : (w.alloc (.cells #[.int .u8 ((1 : Nat) : Int)] 5)) = w1 := by rw [Hw1.out]; rfl
 rw [e0] at HB1
 clear e0
 have HD1 : Hid (Dv w1 O r s) := hid (h.kept0 (by rw [Hw1.out]; exact (Apart.refl [] w).alloc _))
 have zk : w.cell? ⟨O, 0, none⟩ = some (.int .i64 1) := by rw [h.kind, hk]; rfl
 have zk1 : w1.cell? ⟨O, 0, none⟩ = some (.int .i64 1) := by rw [HD1.out.kind, hk]; rfl
 have Hu := hid hu
 have Hd := hid hd
 have HR := hid (fun (W : World) => drow_ok (w := W) hu.sm hd.sm (size := 3) (by omega) true)
 have Hlu : Hid ((rv r.u).length = 8) := hid (by rw [rv_len]; exact h.lu)
 have Hld : Hid ((rv r.d).length = 8) := hid (by rw [rv_len]; exact h.ld)
 clear h hk hu hd
 obtain ⟨A, HA⟩ : ∃ A, Hid (A = w.heap.size) := ⟨_, hid rfl⟩
 rw [← HA.out] at HB1
 go_enter Tryz.func44, Tryz.ntmps44
 go_upto_region 2 with fail
 rw [← HA.out, ← Hw1.out]
 clear zk Hw1 HA
 go_upto_region 4 with fail
 have hAd : Sb O r s w1.drew := keep0 ((Apart.refl [] w1).drew) HD1.out.blk
 have HBd := hid (HB1.out.kept ((Apart.refl [] w1).drew))
 refine wp_region_held_drew (S := Sb O r s) (by kernel_rfl) hAd (fun hHeld => ?_)
 have HSd := hid hAd
 generalize w1.drew = wd at *
 clear hAd hHeld HB1
 refine zt 0 18 ?_
 refine zt 1 19 ?_
 refine zt 2 20 ?_
 refine zt 3 21 ?_
 simp only [zA,zB,zC,zD,zF]
 refine tk 4 22 (.agg (rv r.u).toArray) rfl ?_ ?_
 ·intro W hSW; exact ex_load60 _ rfl O 1 _ rfl (bgU hSW) Hlu.out
 refine zt 5 23 ?_
 refine zt 6 24 ?_
 refine zt 7 25 ?_
 simp only [zA,zB,zC,zD,zF]
 refine tk 8 26 (.agg (rv r.d).toArray) rfl ?_ ?_
 ·intro W hSW; exact ex_load60 _ rfl O 9 _ rfl (bgD hSW Hlu.out) Hld.out
 simp only [zA,zB,zC,zD,zF]
 refine zQ 9 fun KK hKK => ?_
 go_simp
 refine (HR.out wd).mono ?_
 rintro _ w3 ⟨s3, rfl, b3⟩
 obtain ⟨s4, w4, hrun, b4, t4⟩ := app_bs (HBd.out.kept b3.nw.ap) b3.nw.rd b3.len b3.nw.ok (by
  have h1 := nbD_len (inD r.u r.d) (nuD r.u r.d 3 true) (2 * 3) (nuD_len r.u r.d 3 true) 8
  unfold rowD
  simp only [List.length_cons, List.length_nil]
  omega)
 have HRR := hid hrun
 have HB4 := hid b4
 have HS3 := hid (keep0 b3.nw.ap HSd.out)
 have HS4 := hid (t4.block HS3.out (by simp))
 clear hrun b4 t4 b3
 refine hKK _ _ HS3.out (fun hHeld => ?_)
 clear hKK KK
 try simp only [zA,zB,zC,zD,zF]
 refine zQ 10 fun KK hKK => ?_
 refine step_app2 rfl _ _ 29 29 rfl _ _ rfl rfl (.slice s4.p s4.n s4.c) w4 HRR.out ?_
 refine hKK _ _ HS4.out (fun hHeld => ?_)
 clear hKK KK HRR
 try simp only [zA,zB,zC,zD,zF]
 refine zt 11 3 ?_
 simp only [zA,zB,zC,zD,zF]
 refine wpAnyH_done (by kernel_rfl) ?_ _
 go_wp2_with fail
 go_ret
 exact ⟨s4, rfl, by have h1 := HB4.out; rw [rowD_two Hu.out Hd.out] at h1; exact h1⟩
structure Ts (ts : List Tg) (T : ByteArray → List Int) : Prop where
 og : To ts
 len : ∀ e, (T e).length = 8
 eq : ∀ e a, a < 8 → (T e).getD a 0 = (numT ts e a : Int)
theorem Ts.nil : Ts [] (fun _ => zr) := ⟨⟨by simp, List.Pairwise.nil⟩, fun _ => rfl, fun e a _ => by rw [zrD]; rfl⟩
def takeT (ts : List Tg) (e : ByteArray) : List Tg := ts.filter fun t => !decide (t.e = e)
theorem Ts.take {ts : List Tg} {T : ByteArray → List Int} (h : Ts ts T) (e : ByteArray) : Ts (takeT ts e) (fun x => if x = e then zr else T x) := by
 refine ⟨h.og.sub _, fun x => ?_, fun x a ha => ?_⟩
 ·split
  ·rfl
  ·exact h.len x
 ·rcases numT_filter h.og (fun t => !decide (t.e = e)) x a with ⟨h1, h2⟩ | ⟨t, ht, h1, h2, h3, h4⟩
  ·unfold takeT
   rw [h1]
   by_cases hx : x = e
   ·rw [if_pos hx, zrD]; rfl
   ·rw [if_neg hx, h.eq x a ha]
    rcases numT_or ts x a with ⟨h5, -⟩ | ⟨t, ht, h6, h7, -⟩
    ·rw [h5]
    ·have := h2 t ht h6 h7
     simp only [Bool.not_eq_false', decide_eq_true_eq] at this
     exact absurd (h6.symm.trans this) hx
  ·unfold takeT
   rw [h4]
   simp only [Bool.not_eq_true', decide_eq_false_iff_not] at h3
   have hx : ¬ x = e := fun k => h3 (h1.trans k)
   rw [if_neg hx, h.eq x a ha, ← h1, ← h2, numT_mem h.og ht]
theorem Ts.put {ts : List Tg} {T : ByteArray → List Int} (h : Ts ts T) {e : ByteArray} (he : T e = zr) {a n : Nat} (ha : a < 8) (hn : 0 < n) : Ts (ts ++ [⟨e, a, n⟩]) (fun x => if x = e then zr.set a (n : Int) else T x) := by
 have hno : ∀ t ∈ ts, t.e ≠ e := fun t ht k => by
  have h1 := numT_mem h.og ht
  have h2 := h.eq t.e t.a (h.og.ok t ht).1
  rw [k, he, zrD] at h2
  have h3 := (h.og.ok t ht).2
  rw [k] at h1
  omega
 refine ⟨⟨fun t ht => ?_, List.pairwise_append.2 ⟨h.og.one, List.pairwise_singleton _ _, fun s hs t ht => ?_⟩⟩, fun x => ?_, fun x i hi => ?_⟩
 ·rcases List.mem_append.1 ht with ht | ht
  ·exact h.og.ok t ht
  ·rw [List.mem_singleton] at ht; rw [ht]; exact ⟨ha, hn⟩
 ·rw [List.mem_singleton] at ht
  rw [ht]
  exact fun k => hno s hs k.1
 ·split
  ·rw [List.length_set]; rfl
  ·exact h.len x
 ·rw [numT_app]
  by_cases hx : x = e
  ·subst hx
   rw [if_pos rfl, if_neg (fun ⟨t, ht, k, _⟩ => hno t ht k)]
   rw [List.getD_eq_getElem?_getD, List.getElem?_set]
   unfold numT
   by_cases hia : a = i
   ·subst hia
    rw [if_pos rfl, if_pos (show a < zr.length from ha), if_pos (show isT x a ⟨x, a, n⟩ = true from isT_iff.2 ⟨rfl, rfl⟩)]; rfl
   ·rw [if_neg hia, if_neg (fun k => hia (isT_iff.1 k).2)]
    have := zrD i
    rw [List.getD_eq_getElem?_getD] at this
    rw [this]; rfl
  ·rw [if_neg hx, h.eq x i hi]
   by_cases hex : ∃ t ∈ ts, t.e = x ∧ t.a = i
   ·rw [if_pos hex]
   ·rw [if_neg hex]
    rcases numT_or ts x i with ⟨h5, -⟩ | ⟨t, ht, h6, h7, -⟩
    ·rw [h5]
     unfold numT
     rw [if_neg (fun k => hx (isT_iff.1 k).1.symm)]; rfl
    ·exact absurd ⟨t, ht, h6, h7⟩ hex
/-! ### merging -/
def stayB (oc : List Int) (ots : List Tg) (t : Tg) : Bool := decide (oc.getD t.a 0 < (t.n : Int)) || numT ots t.e t.a == t.n
def stay1 (ts : List Tg) (oc : List Int) (ots : List Tg) : List Tg := ts.filter (stayB oc ots)
def stay2 (ts : List Tg) (oc : List Int) (ots xs : List Tg) : List Tg := ts.filter fun t => stayB oc ots t && !(numT xs t.e t.a == t.n)
def mergeT (ts : List Tg) (c : List Int) (os : List Tg) (d : List Int) : List Tg := stay1 ts d os ++ stay2 os c ts (stay1 ts d os)
theorem Ts.merge {ts os : List Tg} {T O : ByteArray → List Int} {c d : List Int} (h : Ts ts T) (k : Ts os O) (hc : ∀ e, Wi (T e) c) (hd : ∀ e, Wi (O e) d) : Ts (mergeT ts c os d) (fun e => mt (T e) c (O e) d) := by
 have hx := h.og.sub (stayB d os)
 have hnum : ∀ e a, (numT (stay1 ts d os) e a = 0 ∧ ∀ t ∈ ts, t.e = e → t.a = a → stayB d os t = false) ∨ ∃ t ∈ ts, t.e = e ∧ t.a = a ∧ stayB d os t = true ∧ numT (stay1 ts d os) e a = t.n := fun e a => numT_filter h.og (stayB d os) e a
 have hst : ∀ {A : List Tg} {TA : ByteArray → List Int} (hA : Ts A TA) {ob : List Tg} {TO : ByteArray → List Int} (hO : Ts ob TO) {oc : List Int} {t : Tg}, t ∈ A → (stayB oc ob t = true → st ((TA t.e).getD t.a 0) ((TO t.e).getD t.a 0) (oc.getD t.a 0) = (t.n : Int)) ∧ (stayB oc ob t = false → st ((TA t.e).getD t.a 0) ((TO t.e).getD t.a 0) (oc.getD t.a 0) = 0) := by
  intro A TA hA ob TO hO oc t ht
  have h1 := hA.og.ok t ht
  rw [hA.eq _ _ h1.1, hO.eq _ _ h1.1, numT_mem hA.og ht]
  unfold stayB st
  constructor
  ·intro hs
   simp only [Bool.or_eq_true, decide_eq_true_eq, beq_iff_eq] at hs
   rcases hs with hs | hs
   ·rw [if_pos (.inr hs)]
   ·rw [if_pos (.inl (by rw [hs]))]
  ·intro hs
   simp only [Bool.or_eq_false_iff, decide_eq_false_iff_not, beq_eq_false_iff_ne] at hs
   rw [if_neg]
   rintro (hk | hk)
   ·exact hs.2 (by omega)
   ·exact hs.1 hk
 have hzero : ∀ {x y z : Int}, x = 0 → 0 ≤ z → st x y z = 0 := by
  intro x y z h0 hz
  unfold st
  subst h0
  split <;> rfl
 refine ⟨⟨fun t ht => ?_, List.pairwise_append.2 ⟨hx.one, k.og.one.filter _, fun s hs t ht => ?_⟩⟩, fun e => mt_len _ _ _ _, fun e a ha => ?_⟩
 ·rcases List.mem_append.1 ht with ht | ht
  ·exact hx.ok t ht
  ·exact k.og.ok t (List.mem_filter.1 ht).1
 ·rintro ⟨k1, k2⟩
  obtain ⟨hs1, hs2⟩ := List.mem_filter.1 hs
  obtain ⟨ht1, ht2⟩ := List.mem_filter.1 ht
  simp only [Bool.and_eq_true, Bool.not_eq_true', beq_eq_false_iff_ne] at ht2
  have e1 := numT_mem hx hs
  rw [k1, k2] at e1
  have e1' : numT (stay1 ts d os) t.e t.a = s.n := e1
  have hne : s.n ≠ t.n := fun q => ht2.2 (e1'.trans q)
  have e2 := numT_mem h.og hs1
  have e3 := numT_mem k.og ht1
  have b1 := (hc s.e).2.2 s.a (h.og.ok s hs1).1
  have b2 := (hd t.e).2.2 t.a (k.og.ok t ht1).1
  rw [h.eq _ _ (h.og.ok s hs1).1, e2] at b1
  rw [k.eq _ _ (k.og.ok t ht1).1, e3] at b2
  unfold stayB at hs2 ht2
  simp only [Bool.or_eq_true, decide_eq_true_eq, beq_iff_eq] at hs2 ht2
  rw [k1, k2] at hs2 e2
  rw [k2] at b1
  rw [e3] at hs2
  rw [e2] at ht2
  omega
 ·rw [mt_at _ _ _ _ a ha]
  unfold mergeT
  rw [numT_app]
  by_cases hex : ∃ t ∈ stay1 ts d os, t.e = e ∧ t.a = a
  ·rw [if_pos hex]
   obtain ⟨t, ht, rfl, rfl⟩ := hex
   obtain ⟨ht1, ht2⟩ := List.mem_filter.1 ht
   have e1 : numT (stay1 ts d os) t.e t.a = t.n := numT_mem hx ht
   rw [e1, (hst h k ht1).1 ht2]
   have hb := k.eq t.e t.a ha
   rcases numT_or os t.e t.a with ⟨h5, -⟩ | ⟨u, hu, h6, h7, h8⟩
   ·rw [hb, h5]
    have hcg := (hc t.e).2.2 t.a ha
    rw [hzero (by simp) (by omega)]
    omega
   ·cases hsu : stayB c ts u
    ·have := (hst k h hu).2 hsu
     rw [h6, h7] at this
     rw [this]; omega
    ·have h9 := (hst k h hu).1 hsu
     rw [h6, h7] at h9
     rw [h9]
     -- both stay: they are the same
     have e2 := numT_mem h.og ht1
     have e3 := numT_mem k.og hu
     have b1 := (hc t.e).2.2 t.a ha
     have b2 := (hd t.e).2.2 t.a ha
     rw [h.eq _ _ ha, e2] at b1
     rw [hb, h8] at b2
     unfold stayB at ht2 hsu
     simp only [Bool.or_eq_true, decide_eq_true_eq, beq_iff_eq] at ht2 hsu
     rw [h6, h7] at hsu e3
     rw [e2] at hsu
     rw [e3] at ht2
     omega
  ·rw [if_neg hex]
   have hv : st ((T e).getD a 0) ((O e).getD a 0) (d.getD a 0) = 0 := by
    rcases numT_or ts e a with ⟨h5, -⟩ | ⟨t, ht, rfl, rfl, h8⟩
    ·have := (hd e).2.2 a ha
     exact hzero (by rw [h.eq e a ha, h5]; rfl) (by omega)
    ·cases hs : stayB d os t
     ·exact (hst h k ht).2 hs
     ·exact absurd ⟨t, List.mem_filter.2 ⟨ht, hs⟩, rfl, rfl⟩ hex
   rw [hv]
   rcases numT_filter k.og (fun t => stayB c ts t && !(numT (stay1 ts d os) t.e t.a == t.n)) e a with ⟨h1, h2⟩ | ⟨u, hu, rfl, rfl, h3, h4⟩
   ·have h1' : numT (stay2 os c ts (stay1 ts d os)) e a = 0 := h1
    rw [h1']
    have ho : st ((O e).getD a 0) ((T e).getD a 0) (c.getD a 0) = 0 := by
     rcases numT_or os e a with ⟨h5, -⟩ | ⟨u, hu, rfl, rfl, h8⟩
     ·have := (hc e).2.2 a ha
      exact hzero (by rw [k.eq e a ha, h5]; rfl) (by omega)
     ·have h9 := h2 u hu rfl rfl
      have h10 : numT (stay1 ts d os) u.e u.a = 0 := by
       rcases numT_or (stay1 ts d os) u.e u.a with ⟨q, -⟩ | ⟨q, hq, q1, q2, -⟩
       ·exact q
       ·exact absurd ⟨q, hq, q1, q2⟩ hex
      have h11 := (k.og.ok u hu).2
      rw [h10] at h9
      have h12 : stayB c ts u = false := by
       cases hq : stayB c ts u
       ·rfl
       ·rw [hq] at h9
        simp at h9
        omega
      exact (hst k h hu).2 h12
    rw [ho]; rfl
   ·have h4' : numT (stay2 os c ts (stay1 ts d os)) u.e u.a = u.n := h4
    rw [h4']
    simp only [Bool.and_eq_true] at h3
    rw [(hst k h hu).1 h3.1]
    omega
/-! ### few tags -/
theorem inj_le {α β : Type} (f : α → β) : ∀ (l : List α) (m : List β), l.Pairwise (fun x y => f x ≠ f y) → (∀ x ∈ l, f x ∈ m) → l.length ≤ m.length
 | [], m, _, _ => Nat.zero_le _
 | x :: r, m, h, k => by
  obtain ⟨h1, h2⟩ := List.pairwise_cons.1 h
  obtain ⟨a, b, e⟩ := List.append_of_mem (k x (by simp))
  have := inj_le f r (a ++ b) h2 (fun y hy => by
   have h3 := k y (List.mem_cons_of_mem _ hy)
   have h4 := h1 y hy
   rw [e] at h3
   simp only [List.mem_append, List.mem_cons] at h3 ⊢
   rcases h3 with h3 | h3 | h3
   ·exact .inl h3
   ·exact absurd h3.symm h4
   ·exact .inr h3)
  rw [e]
  simp only [List.length_append, List.length_cons] at this ⊢
  omega
def cntA (ts : List Tg) (a : Nat) : Nat := (ts.filter fun t => t.a == a).length
def Fw (ts : List Tg) : Prop := ∀ a, a < 8 → cntA ts a ≤ 12
theorem cnt_step (ts : List Tg) (n : Nat) : (ts.filter fun t => decide (t.a < n + 1)).length = (ts.filter fun t => decide (t.a < n)).length + cntA ts n := by
 unfold cntA
 induction ts with
 | nil => rfl
 | cons t r ih =>
  simp only [List.filter_cons]
  by_cases h1 : t.a < n
  ·rw [if_pos (by simp; omega), if_pos (by simp; omega), if_neg (by simp; omega)]
   simp only [List.length_cons]; omega
  ·by_cases h2 : t.a = n
   ·rw [if_pos (by simp; omega), if_neg (by simp; omega), if_pos (by simp; omega)]
    simp only [List.length_cons]; omega
   ·rw [if_neg (by simp; omega), if_neg (by simp; omega), if_neg (by simp; omega)]
    exact ih
theorem Fw.len {ts : List Tg} (h : Fw ts) (o : To ts) : ts.length ≤ 96 := by
 have key : ∀ n, n ≤ 8 → (ts.filter fun t => decide (t.a < n)).length ≤ n * 12 := by
  intro n
  induction n with
  | zero => intro _; simp
  | succ n ih =>
   intro hn
   rw [cnt_step]
   have := h n (by omega)
   have := ih (by omega)
   omega
 have h8 := key 8 (by omega)
 have e : (ts.filter fun t => decide (t.a < 8)) = ts := List.filter_eq_self.2 fun t ht => by simpa using (o.ok t ht).1
 rw [e] at h8
 omega
theorem Fw.nil : Fw [] := fun a _ => by simp [cntA]
theorem Fw.sub {ts : List Tg} (h : Fw ts) (p : Tg → Bool) : Fw (ts.filter p) := fun a ha => by
 refine Nat.le_trans ?_ (h a ha)
 unfold cntA
 have e : List.filter (fun t : Tg => t.a == a) (List.filter p ts) = List.filter p (List.filter (fun t : Tg => t.a == a) ts) := by
  rw [List.filter_filter, List.filter_filter]
  congr 1
  funext t
  exact Bool.and_comm _ _
 rw [e]
 exact List.length_filter_le _ _
theorem one_e {ts : List Tg} (o : To ts) (a : Nat) : (ts.filter fun t => t.a == a).Pairwise fun x y => x.e ≠ y.e := by
 have h1 := o.one.filter fun t => t.a == a
 refine List.Pairwise.imp_of_mem ?_ h1
 intro x y hx hy h e
 have h2 := (List.mem_filter.1 hx).2
 have h3 := (List.mem_filter.1 hy).2
 simp only [beq_iff_eq] at h2 h3
 exact h ⟨e, h2.trans h3.symm⟩
theorem Fw.merge {ts os : List Tg} {T O : ByteArray → List Int} {c d : List Int} (h : Ts ts T) (k : Ts os O) (hc : ∀ e, Wi (T e) c) (hd : ∀ e, Wi (O e) d) (f : Fw ts) (g : Fw os) : Fw (mergeT ts c os d) := by
 intro a ha
 have hm := (h.merge k hc hd).og
 have h1 := one_e hm a
 have h2 : (∀ t ∈ mergeT ts c os d, t.a = a → ∃ u ∈ ts, u.e = t.e ∧ u.a = a) ∨ (∀ t ∈ mergeT ts c os d, t.a = a → ∃ u ∈ os, u.e = t.e ∧ u.a = a) := by
  have key : ∀ {A B : List Tg} {TA TB : ByteArray → List Int} {p q : List Int}, Ts A TA → Ts B TB → (∀ e, Wi (TB e) q) → q.getD a 0 ≤ p.getD a 0 → ∀ t ∈ B, t.a = a → stayB p A t = true → ∃ u ∈ A, u.e = t.e ∧ u.a = a := by
   intro A B TA TB p q hA hB hq hle t ht hta hst
   unfold stayB at hst
   simp only [Bool.or_eq_true, decide_eq_true_eq, beq_iff_eq] at hst
   have e1 := numT_mem hB.og ht
   have e2 := hB.eq t.e t.a (by omega)
   have e3 := (hq t.e).2.2 a ha
   have e4 := (hB.og.ok t ht).2
   rw [hta] at hst e1 e2
   rw [e1] at e2
   rcases hst with hst | hst
   ·omega
   ·rcases numT_or A t.e a with ⟨z, -⟩ | ⟨u, hu, u1, u2, -⟩
    ·omega
    ·exact ⟨u, hu, u1, u2⟩
  by_cases hle : d.getD a 0 ≤ c.getD a 0
  ·refine .inl fun t ht hta => ?_
   rcases List.mem_append.1 ht with ht | ht
   ·exact ⟨t, (List.mem_filter.1 ht).1, rfl, hta⟩
   ·obtain ⟨ht1, ht2⟩ := List.mem_filter.1 ht
    simp only [Bool.and_eq_true] at ht2
    exact key h k hd hle t ht1 hta ht2.1
  ·refine .inr fun t ht hta => ?_
   rcases List.mem_append.1 ht with ht | ht
   ·obtain ⟨ht1, ht2⟩ := List.mem_filter.1 ht
    exact key k h hc (by omega) t ht1 hta ht2
   ·exact ⟨t, (List.mem_filter.1 ht).1, rfl, hta⟩
 rcases h2 with h2 | h2
 ·refine Nat.le_trans ?_ (f a ha)
  have := inj_le (fun t : Tg => t.e) _ ((ts.filter fun t => t.a == a).map fun t => t.e) h1 (fun t ht => by
   obtain ⟨t1, t2⟩ := List.mem_filter.1 ht
   obtain ⟨u, hu, u1, u2⟩ := h2 t t1 (by simpa using t2)
   exact List.mem_map.2 ⟨u, List.mem_filter.2 ⟨hu, by simpa using u2⟩, u1⟩)
  rw [List.length_map] at this
  exact this
 ·refine Nat.le_trans ?_ (g a ha)
  have := inj_le (fun t : Tg => t.e) _ ((os.filter fun t => t.a == a).map fun t => t.e) h1 (fun t ht => by
   obtain ⟨t1, t2⟩ := List.mem_filter.1 ht
   obtain ⟨u, hu, u1, u2⟩ := h2 t t1 (by simpa using t2)
   exact List.mem_map.2 ⟨u, List.mem_filter.2 ⟨hu, by simpa using u2⟩, u1⟩)
  rw [List.length_map] at this
  exact this
theorem mem_tg {ts : List Tg} {es : List En} (h : Ts ts (tg es)) {t : Tg} (ht : t ∈ ts) : ∃ x ∈ es, x.e = t.e := by
 have h1 := h.og.ok t ht
 have h2 := h.eq t.e t.a h1.1
 rw [numT_mem h.og ht] at h2
 rcases tg_or es t.e with e | ⟨x, hx, e, -⟩
 ·rw [e, zrD] at h2; omega
 ·exact ⟨x, hx, e⟩
theorem Fw.of {ts : List Tg} {es : List En} (h : Ts ts (tg es)) (hl : es.length ≤ 12) : Fw ts := fun a ha => by
 have := inj_le (fun t : Tg => t.e) _ (es.map fun x => x.e) (one_e h.og a) (fun t ht => by
  obtain ⟨x, hx, e⟩ := mem_tg h (List.mem_filter.1 ht).1
  exact List.mem_map.2 ⟨x, hx, e⟩)
 rw [List.length_map] at this
 unfold cntA
 omega
theorem tg_some {ts : List Tg} {es : List En} (h : Ts ts (tg es)) (hs : So es) (hz : ∀ x ∈ es, x.t ≠ zr) (hl : ∀ x ∈ es, x.t.length = 8) {x : En} (hx : x ∈ es) : ∃ t ∈ ts, t.e = x.e := by
 have h0 : ∃ i, i < 8 ∧ x.t.getD i 0 ≠ 0 := by
  refine Classical.byContradiction fun k => hz x hx (row_ext (hl x hx) rfl fun i hi => ?_)
  rw [zrD]
  exact Classical.byContradiction fun q => k ⟨i, hi, q⟩
 obtain ⟨i, hi, hne⟩ := h0
 have h1 := h.eq x.e i hi
 rw [tg_mem hs hx] at h1
 rcases numT_or ts x.e i with ⟨z, -⟩ | ⟨t, ht, e, -⟩
 ·rw [z] at h1; exact absurd h1 hne
 ·exact ⟨t, ht, e⟩
/-! ### elements -/
theorem insS_so {x : ByteArray} {l : List ByteArray} (h : l.Pairwise fun a b => bl a b = true) : (insS x l).Pairwise fun a b => bl a b = true := by
 unfold insS
 split
 ·exact h
 ·rename_i hn
  have hlo : ∀ y ∈ l.take (bel x l), bl y x = true := fun y hy => by
   obtain ⟨i, hi, e⟩ := List.mem_iff_getElem.1 hy
   rw [List.length_take] at hi
   rw [← e, List.getElem_take]
   exact bel_lt x l i (by omega) (by omega)
  have hhi : ∀ y ∈ l.drop (bel x l), bl x y = true := fun y hy => by
   obtain ⟨i, hi, e⟩ := List.mem_iff_getElem.1 hy
   rw [List.length_drop] at hi
   rw [List.getElem_drop] at e
   have hb : bel x l < l.length := by omega
   have h1 := bel_ge x l hb
   rw [List.getElem?_eq_getElem hb] at hn
   have h2 : bl x (l[bel x l]'hb) = true := by
    cases q : bl x (l[bel x l]'hb)
    ·exact absurd (congrArg some (bl_total h1 q)) hn
    ·rfl
   by_cases hi0 : i = 0
   ·subst hi0; rw [← e]; simpa using h2
   ·have h3 := List.pairwise_iff_getElem.1 h (bel x l) (bel x l + i) hb (by omega) (by omega)
    rw [← e]
    exact bl_trans h2 h3
  refine List.pairwise_append.2 ⟨h.sublist (List.take_sublist _ _), List.pairwise_cons.2 ⟨hhi, h.sublist (List.drop_sublist _ _)⟩, fun y hy z hz => ?_⟩
  rcases List.mem_cons.1 hz with rfl | hz
  ·exact hlo y hy
  ·exact bl_trans (hlo y hy) (hhi z hz)
theorem elsT_so : ∀ (ts : List Tg) {l : List ByteArray}, (l.Pairwise fun a b => bl a b = true) → (elsT ts l).Pairwise fun a b => bl a b = true
 | [], l, h => h
 | t :: r, l, h => by rw [elsT]; exact elsT_so r (insS_so h)
theorem elsT_len : ∀ (ts : List Tg) (l : List ByteArray), (elsT ts l).length ≤ ts.length + l.length
 | [], l => by simp [elsT]
 | t :: r, l => by
  rw [elsT]
  have := elsT_len r (insS t.e l)
  have := insS_len t.e l
  simp only [List.length_cons]
  omega
theorem so_ext : ∀ {a b : List ByteArray}, (a.Pairwise fun x y => bl x y = true) → (b.Pairwise fun x y => bl x y = true) → (∀ x, x ∈ a ↔ x ∈ b) → a = b
 | [], [], _, _, _ => rfl
 | [], y :: b, _, _, h => by have := (h y).2 (by simp); simp at this
 | x :: a, [], _, _, h => by have := (h x).1 (by simp); simp at this
 | x :: a, y :: b, h1, h2, h => by
  obtain ⟨p1, p2⟩ := List.pairwise_cons.1 h1
  obtain ⟨q1, q2⟩ := List.pairwise_cons.1 h2
  have e : x = y := by
   rcases List.mem_cons.1 ((h x).1 (by simp)) with e | hx
   ·exact e
   ·rcases List.mem_cons.1 ((h y).2 (by simp)) with e | hy
    ·exact e.symm
    ·have k1 := q1 x hx
     have k2 := p1 y hy
     have := bl_trans k1 k2
     rw [bl_irrefl] at this; cases this
  subst e
  rw [so_ext p2 q2 fun z => ?_]
  constructor
  ·intro hz
   rcases List.mem_cons.1 ((h z).1 (List.mem_cons_of_mem _ hz)) with e | hz2
   ·subst e; have := p1 z hz; rw [bl_irrefl] at this; cases this
   ·exact hz2
  ·intro hz
   rcases List.mem_cons.1 ((h z).2 (List.mem_cons_of_mem _ hz)) with e | hz2
   ·subst e; have := q1 z hz; rw [bl_irrefl] at this; cases this
   ·exact hz2
theorem els_eq {ts : List Tg} {es : List En} (h : Ts ts (tg es)) (hs : So es) (hz : ∀ x ∈ es, x.t ≠ zr) (hl : ∀ x ∈ es, x.t.length = 8) : elsT ts [] = es.map fun x => x.e := by
 refine so_ext (elsT_so ts List.Pairwise.nil) (List.pairwise_map.2 hs) fun y => ?_
 rw [elsT_mem]
 simp only [List.not_mem_nil, false_or, List.mem_map]
 constructor
 ·rintro ⟨t, ht, rfl⟩
  exact mem_tg h ht
 ·rintro ⟨x, hx, rfl⟩
  exact tg_some h hs hz hl hx
/-! ### the relation -/
structure Iv (v : Vl) : Prop where
 gt : Gt v
 sz : ∀ x ∈ elsR v, 1 ≤ x.e.size
def flT (g : List Int) (e : ByteArray) : List Int := if e = ⟨#[]⟩ then g else zr
def Rl (v : Vl) (ts : List Tg) : Prop := match v with
 | Sum.inl _ => ts = []
 | Sum.inr (Sum.inl (c, es)) => Ts ts (tg es) ∧ Fw ts
 | Sum.inr (Sum.inr (Sum.inl (c, g))) => Ts ts (flT g) ∧ Fw ts
 | Sum.inr (Sum.inr (Sum.inr _)) => ts = []
def rvO (v : Vl) (ts : List Tg) : Rv := match v with
 | Sum.inl (u, d) => ⟨1, u, d, zr, ts, 0, 0, ⟨#[]⟩⟩
 | Sum.inr (Sum.inl (c, es)) => ⟨2, zr, zr, c, ts, 0, 0, ⟨#[]⟩⟩
 | Sum.inr (Sum.inr (Sum.inl (c, g))) => ⟨3, zr, zr, c, ts, 0, 0, ⟨#[]⟩⟩
 | Sum.inr (Sum.inr (Sum.inr (s, a, t))) => ⟨4, zr, zr, zr, ts, s, a, t⟩
theorem rvO_k (v : Vl) (ts : List Tg) : (rvO v ts).k = v.kd := by cases v using Vl.el <;> rfl
theorem rvO_ts (v : Vl) (ts : List Tg) : (rvO v ts).ts = ts := by cases v using Vl.el <;> rfl
theorem Rl.len {v : Vl} {ts : List Tg} (h : Rl v ts) : ts.length ≤ 96 := by
 cases v using Vl.el with
 | cnt u d => rw [show ts = [] from h]; simp
 | set c es => exact h.2.len h.1.og
 | flg c g => exact h.2.len h.1.og
 | rgs s a t => rw [show ts = [] from h]; simp
theorem Rl.els {v : Vl} {ts : List Tg} (h : Rl v ts) (hv : Gd v) : (elsR v).length ≤ 96 := by
 cases v using Vl.el with
 | cnt u d => simp [elsR]
 | set c es =>
  have h1 := els_eq h.1 hv.1.so hv.1.nz (fun x hx => (hv.1.wi x hx).1)
  have h2 := elsT_len ts []
  have h3 := h.2.len h.1.og
  rw [h1, List.length_map] at h2
  show es.length ≤ 96
  simp only [List.length_nil] at h2
  omega
 | flg c g => simp [elsR]
 | rgs s a t => simp [elsR]
theorem Rl.ok {v : Vl} {ts : List Tg} (h : Rl v ts) (hv : Gd v) : Ok v := hv.ok (by have := h.els hv; omega)
theorem Rl.okF {v : Vl} {ts : List Tg} (h : Rl v ts) (hv : Gd v) : OkF v := hv.okF (by have := h.els hv; omega)
theorem Ts.congr {ts : List Tg} {T O : ByteArray → List Int} (h : Ts ts T) (e : ∀ x, T x = O x) : Ts ts O := by
 have : T = O := funext e
 rw [← this]; exact h
theorem flT_wi {c g : List Int} (h : Wi g c) (hc : Cn c) (e : ByteArray) : Wi (flT g e) c := by
 unfold flT
 split
 ·exact h
 ·exact Wi.zr hc.1 hc.ge
theorem Rl.mg {v o : Vl} {ts os : List Tg} (h : Rl v ts) (k : Rl o os) (iv : Iv v) (io : Iv o) (e : v.kd = o.kd) : Rl (mgV v o) (mergeT ts (rvO v ts).c os (rvO o os).c) := by
 revert h k iv io
 refine Vl.two (motive := fun v o => Rl v ts → Rl o os → Iv v → Iv o → Rl (mgV v o) (mergeT ts (rvO v ts).c os (rvO o os).c)) ?_ ?_ ?_ ?_ v o e
 ·intro u d p q h k iv io
  rw [show ts = [] from h, show os = [] from k]
  rfl
 ·intro c es d fs h k iv io
  obtain ⟨⟨hg, hc, hs⟩, -⟩ := iv.gt
  obtain ⟨⟨kg, kc, ks⟩, -⟩ := io.gt
  refine ⟨(h.1.merge k.1 hg.tg kg.tg).congr fun x => (mgE_tg hg kg x).symm, Fw.merge h.1 k.1 hg.tg kg.tg h.2 k.2⟩
 ·intro c g d f h k iv io
  obtain ⟨⟨hc, hw⟩, -⟩ := iv.gt
  obtain ⟨⟨kc, kw⟩, -⟩ := io.gt
  refine ⟨(h.1.merge k.1 (flT_wi hw hc) (flT_wi kw kc)).congr fun x => ?_, Fw.merge h.1 k.1 (flT_wi hw hc) (flT_wi kw kc) h.2 k.2⟩
  unfold flT
  by_cases hx : x = ⟨#[]⟩
  ·rw [if_pos hx, if_pos hx, if_pos hx]
  ·rw [if_neg hx, if_neg hx, if_neg hx, mt_zz]
 ·intro x y h k iv io
  rw [show ts = [] from h, show os = [] from k]
  show Rl (mgV (.rgs x.1 x.2.1 x.2.2) (.rgs y.1 y.2.1 y.2.2)) []
  rcases Classical.em (Lt3 x y) with hl | hl
  ·rw [mgV_yes hl]; rfl
  ·rw [mgV_no hl]; rfl
theorem Iv.mg {v o : Vl} (iv : Iv v) (io : Iv o) (e : v.kd = o.kd) : Iv (mgV v o) := by
 have hgd := mgV_gd iv.gt.1 io.gt.1 e
 revert iv io hgd
 refine Vl.two (motive := fun v o => Iv v → Iv o → Gd (mgV v o) → Iv (mgV v o)) ?_ ?_ ?_ ?_ v o e
 ·intro u d p q iv io hgd
  exact ⟨⟨hgd, fun s a t e => by cases e⟩, fun x hx => by simp [mgV, elsR] at hx⟩
 ·intro c es d fs iv io hgd
  refine ⟨⟨hgd, fun s a t e => by cases e⟩, fun x hx => ?_⟩
  rcases mgF_mem c d _ (show x ∈ mgF c d (es.length + fs.length) es fs from hx) with ⟨y, hy, e⟩ | ⟨y, hy, e⟩
  ·rw [← e]; exact iv.sz y hy
  ·rw [← e]; exact io.sz y hy
 ·intro c g d f iv io hgd
  exact ⟨⟨hgd, fun s a t e => by cases e⟩, fun x hx => by simp [mgV, elsR] at hx⟩
 ·intro x y iv io hgd
  rcases Classical.em (Lt3 x y) with hl | hl
  ·rw [mgV_yes hl]; exact io
  ·rw [mgV_no hl]; exact iv
def mgD (v o : Rv) (later : Bool) : Rv := ⟨v.k, gr v.u o.u, gr v.d o.d, gr v.c o.c, mergeT v.ts v.c o.ts o.c, if later = true then o.st else v.st, if later = true then o.ac else v.ac, if later = true then o.tx else v.tx⟩
def lateB (v o : Rv) : Bool := decide (v.st < o.st) || (v.st == o.st && (decide (v.ac < o.ac) || (v.ac == o.ac && bl v.tx o.tx)))
theorem lateB_iff (v o : Rv) : lateB v o = true ↔ Lt3 (v.st, v.ac, v.tx) (o.st, o.ac, o.tx) := by
 unfold lateB Lt3
 simp only [Bool.or_eq_true, Bool.and_eq_true, decide_eq_true_eq, beq_iff_eq]
theorem gr_zz : gr zr zr = zr := gr_idem rfl
theorem lateB_zz (a b : Rv) (h1 : a.st = 0) (h2 : a.ac = 0) (h3 : a.tx = ⟨#[]⟩) (k1 : b.st = 0) (k2 : b.ac = 0) (k3 : b.tx = ⟨#[]⟩) : lateB a b = false := by
 cases q : lateB a b
 ·rfl
 ·have := (lateB_iff a b).1 q
  rw [h1, h2, h3, k1, k2, k3] at this
  exact absurd this (Lt3.irrefl _)
theorem rvO_mg {v o : Vl} {ts os : List Tg} (h : Rl v ts) (k : Rl o os) (iv : Iv v) (io : Iv o) (e : v.kd = o.kd) : mgD (rvO v ts) (rvO o os) (lateB (rvO v ts) (rvO o os)) = rvO (mgV v o) (mergeT ts (rvO v ts).c os (rvO o os).c) := by
 revert h k iv io
 refine Vl.two (motive := fun v o => Rl v ts → Rl o os → Iv v → Iv o → mgD (rvO v ts) (rvO o os) (lateB (rvO v ts) (rvO o os)) = rvO (mgV v o) (mergeT ts (rvO v ts).c os (rvO o os).c)) ?_ ?_ ?_ ?_ v o e
 ·intro u d p q h k iv io
  rw [lateB_zz _ _ rfl rfl rfl rfl rfl rfl]
  show Rv.mk 1 (gr u p) (gr d q) (gr zr zr) _ 0 0 ⟨#[]⟩ = Rv.mk 1 (gr u p) (gr d q) zr _ 0 0 ⟨#[]⟩
  rw [gr_zz]; rfl
 ·intro c es d fs h k iv io
  rw [lateB_zz _ _ rfl rfl rfl rfl rfl rfl]
  show Rv.mk 2 (gr zr zr) (gr zr zr) (gr c d) _ 0 0 ⟨#[]⟩ = Rv.mk 2 zr zr (gr c d) _ 0 0 ⟨#[]⟩
  rw [gr_zz]; rfl
 ·intro c g d f h k iv io
  rw [lateB_zz _ _ rfl rfl rfl rfl rfl rfl]
  show Rv.mk 3 (gr zr zr) (gr zr zr) (gr c d) _ 0 0 ⟨#[]⟩ = Rv.mk 3 zr zr (gr c d) _ 0 0 ⟨#[]⟩
  rw [gr_zz]; rfl
 ·intro x y h k iv io
  rcases Classical.em (Lt3 x y) with hl | hl
  ·have hf : lateB (rvO (.rgs x.1 x.2.1 x.2.2) ts) (rvO (.rgs y.1 y.2.1 y.2.2) os) = true := (lateB_iff _ _).2 hl
   rw [hf, mgV_yes hl]
   show Rv.mk 4 (gr zr zr) (gr zr zr) (gr zr zr) _ y.1 y.2.1 y.2.2 = Rv.mk 4 zr zr zr _ y.1 y.2.1 y.2.2
   rw [gr_zz]; rfl
  ·have hf : lateB (rvO (.rgs x.1 x.2.1 x.2.2) ts) (rvO (.rgs y.1 y.2.1 y.2.2) os) = false := by
    cases q : lateB (rvO (.rgs x.1 x.2.1 x.2.2) ts) (rvO (.rgs y.1 y.2.1 y.2.2) os)
    ·rfl
    ·exact absurd ((lateB_iff _ _).1 q) hl
   rw [hf, mgV_no hl]
   show Rv.mk 4 (gr zr zr) (gr zr zr) (gr zr zr) _ x.1 x.2.1 x.2.2 = Rv.mk 4 zr zr zr _ x.1 x.2.1 x.2.2
   rw [gr_zz]; rfl
/-! ### new values -/
theorem Iv.new {k : Nat} (h1 : 1 ≤ k) (h4 : k ≤ 4) : Iv (new0 k) := by
 refine ⟨⟨new0_gd k, fun s a t e => ?_⟩, fun x hx => ?_⟩
 ·obtain rfl | rfl | rfl | rfl : k = 1 ∨ k = 2 ∨ k = 3 ∨ k = 4 := by omega
  all_goals cases e
  decide
 ·obtain rfl | rfl | rfl | rfl : k = 1 ∨ k = 2 ∨ k = 3 ∨ k = 4 := by omega
  all_goals simp [new0, elsR] at hx
theorem Rl.new {k : Nat} (h1 : 1 ≤ k) (h4 : k ≤ 4) : Rl (new0 k) [] := by
 obtain rfl | rfl | rfl | rfl : k = 1 ∨ k = 2 ∨ k = 3 ∨ k = 4 := by omega
 ·rfl
 ·exact ⟨Ts.nil.congr fun _ => rfl, Fw.nil⟩
 ·exact ⟨Ts.nil.congr fun x => by unfold flT; split <;> rfl, Fw.nil⟩
 ·rfl
theorem rvO_new {k : Nat} (h1 : 1 ≤ k) (h4 : k ≤ 4) : rvO (new0 k) [] = rv0 k := by
 obtain rfl | rfl | rfl | rfl : k = 1 ∨ k = 2 ∨ k = 3 ∨ k = 4 := by omega
 all_goals rfl
/-! ### what is told -/
theorem Rl.on {v : Vl} {ts : List Tg} (h : Rl v ts) (iv : Iv v) : ronR (rvO v ts) = onR v := by
 cases v using Vl.el with
 | cnt u d => rfl
 | set c es => rfl
 | rgs s a t => rfl
 | flg c g =>
  obtain ⟨⟨hc, hw⟩, -⟩ := iv.gt
  show (3 == 3 && decide (0 < ts.length)) = (g != zr)
  rw [show ((3 : Nat) == 3) = true from rfl, Bool.true_and]
  by_cases hg : g = zr
  ·have : ts = [] := by
    cases ts with
    | nil => rfl
    | cons t r =>
     have h1 := h.1.og.ok t (by simp)
     have h2 := h.1.eq t.e t.a h1.1
     rw [numT_mem h.1.og (by simp)] at h2
     unfold flT at h2
     rw [hg] at h2
     split at h2
     all_goals rw [zrD] at h2; omega
   rw [this, hg]; decide
  ·have h0 : ∃ i, i < 8 ∧ g.getD i 0 ≠ 0 := by
    refine Classical.byContradiction fun k => hg (row_ext hw.1 rfl fun i hi => ?_)
    rw [zrD]
    exact Classical.byContradiction fun q => k ⟨i, hi, q⟩
   obtain ⟨i, hi, hne⟩ := h0
   have h1 := h.1.eq ⟨#[]⟩ i hi
   unfold flT at h1
   rw [if_pos rfl] at h1
   have h2 : 0 < ts.length := by
    rcases numT_or ts ⟨#[]⟩ i with ⟨z, -⟩ | ⟨t, ht, -⟩
    ·rw [z] at h1; exact absurd h1 hne
    ·exact List.length_pos_of_mem ht
   have h3 : (g != zr) = true := by simpa using hg
   rw [h3, decide_eq_true h2]
theorem Rl.tr {ts : List Tg} {T : ByteArray → List Int} (h : Ts ts T) {c : List Int} (hc : Cn c) (e : ByteArray) (w : Wi (T e) c) : Tr ts e (T e) := ⟨h.len e, fun a ha => h.eq e a ha, fun a ha => by
 have h1 := h.eq e a ha
 have h2 := w.2.2 a ha
 have h3 := hc.2 a
 omega⟩
end Go.Proofs.YtdbeeikjngnnnaaGreat.ty
