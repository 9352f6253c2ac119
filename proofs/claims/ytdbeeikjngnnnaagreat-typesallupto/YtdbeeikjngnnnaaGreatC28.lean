import Derived.Test.YtdbeeikjngnnnaaGreatC25
namespace Go.Proofs.YtdbeeikjngnnnaaGreat.ty
open Go.ChangeShapes Go.WideShapes Go.ChangeAt Go.RowKit
set_option linter.unusedVariables false
set_option linter.unusedSimpArgs false
set_option maxRecDepth 100000
set_option maxHeartbeats 8000000
theorem bgC {W : World} {O : Nat} {r : Rv} {s : Sl} (hb : W.heap[O]? = some (.cells (dCells r s).toArray 63 (0, 0))) (lu : (rv r.u).length = 8) (ld : (rv r.d).length = 8) : W.rangeAt O 17 (rv r.c) := by
 intro j v hj
 have h1 := jl hj
 rw [cell_of_row _ _ _ _ _ _ hb, show 17 + j = (8 + (8 + j)) + 1 by omega]
 unfold dCells
 rw [List.getElem?_toArray, List.getElem?_cons_succ, List.getElem?_append_right (by omega), lu, Nat.add_sub_cancel_left, List.getElem?_append_right (by omega), ld, Nat.add_sub_cancel_left, List.getElem?_append_left h1]
 exact hj
theorem rowD_len (u d : List Int) (size : Nat) (two : Bool) (hs : size ≤ 3) : (rowD u d size two).length ≤ 49 := by
 have h1 := nbD_len (inD u d) (nuD u d size two) (2 * size) (nuD_len u d size two) 8
 unfold rowD
 simp only [List.length_cons]
 omega
structure Dk (w : World) (O : Nat) (r : Rv) (s : Sl) : Prop where
 dv : Dv w O r s
 tag : 0 < r.ts.length → ∃ A o cur, s.p = some ⟨A, o, none⟩ ∧ w.heap[A]? = some (.cells cur 96 (0, 0))
theorem Dk.kept0 {w w' : World} {O : Nat} {r : Rv} {s : Sl} (h : Dk w O r s) (a : Apart [] w w') : Dk w' O r s :=
 ⟨h.dv.kept0 a, fun h0 => by obtain ⟨A, o, cur, h1, h3⟩ := h.tag h0; exact ⟨A, o, cur, h1, keep0 a h3⟩⟩
theorem Dk.tkg {tys : List Nat} {w w' : World} {O : Nat} {r : Rv} {s : Sl} (h : Dk w O r s) (k : TK tys w w') (h63 : 63 ∉ tys) (h96 : 96 ∉ tys) : Dk w' O r s := by
 refine ⟨⟨k.block h.dv.blk h63, ?_, h.dv.len, h.dv.ok, h.dv.lu, h.dv.ld, h.dv.lc⟩, fun h0 => ?_⟩
 ·by_cases h0 : 0 < r.ts.length
  ·obtain ⟨A, o, cur, h1, h3⟩ := h.tag h0
   obtain ⟨Z, a, hz⟩ := k
   refine h.dv.rd.kept a (fun P o' hp hm => ?_)
   rw [h1] at hp
   simp only [Option.some.injEq, Addr.mk.injEq] at hp
   obtain ⟨cu, t', ht, hh⟩ := hz P hm
   rw [← hp.1, h3] at hh
   simp only [Option.some.injEq, Obj.cells.injEq] at hh
   exact h96 (by rw [hh.2.1]; exact ht)
  ·have e : r.ts = [] := List.length_eq_zero_iff.1 (by omega)
   rw [e]
   exact Rd.nil _ _
 ·obtain ⟨A, o, cur, h1, h3⟩ := h.tag h0
  exact ⟨A, o, cur, h1, k.block h3 h96⟩
theorem Dk.tk {w w' : World} {O : Nat} {r : Rv} {s : Sl} (h : Dk w O r s) (k : TK [5] w w') : Dk w' O r s := h.tkg k (by decide) (by decide)
theorem Dk.other {w w' : World} {O : Nat} {r : Rv} {s : Sl} {X : List Nat} (h : Dk w O r s) (a : Apart X w w') (hO : O ∉ X) (hX : ∀ k ∈ X, ∀ cur m, w.heap[k]? ≠ some (.cells cur 96 m)) : Dk w' O r s := by
 refine ⟨⟨(a.block _ (lt_of_heap h.dv.blk) hO).trans h.dv.blk, ?_, h.dv.len, h.dv.ok, h.dv.lu, h.dv.ld, h.dv.lc⟩, fun h0 => ?_⟩
 ·by_cases h0 : 0 < r.ts.length
  ·obtain ⟨A, o, cur, h1, h3⟩ := h.tag h0
   refine h.dv.rd.kept a (fun P o' hp hm => ?_)
   rw [h1] at hp
   simp only [Option.some.injEq, Addr.mk.injEq] at hp
   exact hX P hm cur (0, 0) (by rw [← hp.1]; exact h3)
  ·have e : r.ts = [] := List.length_eq_zero_iff.1 (by omega)
   rw [e]
   exact Rd.nil _ _
 ·obtain ⟨A, o, cur, h1, h3⟩ := h.tag h0
  exact ⟨A, o, cur, h1, (a.block _ (lt_of_heap h3) (fun hm => hX A hm cur (0, 0) h3)).trans h3⟩
theorem dform_flg {w : World} {O : Nat} {r : Rv} {s : Sl} (h : Dk w O r s) (hk : r.k = 3) (hl : r.ts.length ≤ 1000000) (hc : Sm r.c) {b : List Int} (hb : Tr r.ts ⟨#[]⟩ b) : Calls Tryz.prog 44 #[.pointer (some ⟨O, 0, none⟩)] w fun x w' => ∃ s', x = .returned (.slice s'.p s'.n s'.c) ∧ Bf w w' s' (3 :: (rowB r.c 2 ++ rowB b 2)) := by
 have HB1 := hid (Bf.one w 3)
 obtain ⟨w1, Hw1⟩ : ∃ W, Hid (W = w.alloc (.cells #[.int .u8 3] 5)) := ⟨_, hid rfl⟩
 have e0 : (w.alloc (.cells #[.int .u8 ((3 : Nat) : Int)] 5)) = w1 := by rw [Hw1.out]; rfl
 rw [e0] at HB1
 clear e0
 have HD1 : Hid (Dk w1 O r s) := hid (h.kept0 (by rw [Hw1.out]; exact (Apart.refl [] w).alloc _))
 have zk : w.cell? ⟨O, 0, none⟩ = some (.int .i64 3) := by rw [h.dv.kind, hk]; rfl
 have zk1 : w1.cell? ⟨O, 0, none⟩ = some (.int .i64 3) := by rw [HD1.out.dv.kind, hk]; rfl
 have HR := hid (fun (W : World) => drow_ok (w := W) hc zr_sm (size := 2) (by omega) false)
 have HT := hid (fun (W : World) (hW : Dk W O r s) => tags_ok (w := W) hW.dv hl hb)
 have Hlu : Hid ((rv r.u).length = 8) := hid (by rw [rv_len]; exact h.dv.lu)
 have Hld : Hid ((rv r.d).length = 8) := hid (by rw [rv_len]; exact h.dv.ld)
 have Hlc : Hid ((rv r.c).length = 8) := hid (by rw [rv_len]; exact h.dv.lc)
 clear h hk hl hc hb
 obtain ⟨A, HA⟩ : ∃ A, Hid (A = w.heap.size) := ⟨_, hid rfl⟩
 rw [← HA.out] at HB1
 go_enter Tryz.func44, Tryz.ntmps44
 go_upto_region 2 with fail
 rw [← HA.out, ← Hw1.out]
 clear zk Hw1 HA
 go_upto_region 17 with (first
  | refine wpL_val rfl (.agg (rv r.c).toArray) (ex_load60 _ rfl O 17 _ rfl (bgC HD1.out.dv.blk Hlu.out Hld.out) Hlc.out) ?_
  | refine wpL_val rfl (.agg (rv zr).toArray) (ex_build60 rfl) ?_
  | (go_at_call 58
     refine (HR.out w1).mono ?_
     rintro _ w3 ⟨s3, rfl, b3⟩
     obtain ⟨s4, w4, hrun, b4, t4⟩ := app_bs (HB1.out.kept b3.nw.ap) b3.nw.rd b3.len b3.nw.ok (by have := rowD_len r.c zr 2 false (by omega); simp only [List.length_cons, List.length_nil]; omega)
     have HRR := hid hrun
     have HB4 := hid b4
     have HD4 := hid ((HD1.out.kept0 b3.nw.ap).tk t4)
     clear hrun b4 t4 b3)
  | (at_builtin; refine wpList_app2 rfl _ _ 29 29 rfl _ _ rfl rfl (.slice s4.p s4.n s4.c) w4 HRR.out ?_))
 clear HRR HB1 HD1
 go_wp2_with (first
  | (go_at_call 59
     refine (HT.out w4 HD4.out).mono ?_
     rintro _ w5 ⟨s5, rfl, b5⟩
     obtain ⟨s6, w6, hrun, b6, t6⟩ := app_bs (HB4.out.kept b5.nw.ap) b5.nw.rd b5.len b5.nw.ok (by have := rowD_len r.c zr 2 false (by omega); have := rowD_len b zr 2 false (by omega); rw [List.length_append]; simp only [List.length_cons, List.length_nil]; omega)
     have HRR := hid hrun
     have HB6 := hid b6
     clear hrun b6 t6 b5)
  | (at_builtin; refine wpList_app2 rfl _ _ 29 29 rfl _ _ rfl rfl (.slice s6.p s6.n s6.c) w6 HRR.out ?_))
 go_ret
 exact ⟨s6, rfl, by have h1 := HB6.out; rw [rowD_one, rowD_one, List.append_assoc] at h1; exact h1⟩
theorem dform_reg {w : World} {O : Nat} {r : Rv} {s : Sl} (h : Dv w O r s) (hk : r.k = 4) {n a : Nat} (hn : r.st = (n : Int)) (hn' : n ≤ 16777215) (ha : r.ac = (a : Int)) (ht : r.tx.size ≤ 1000) : Calls Tryz.prog 44 #[.pointer (some ⟨O, 0, none⟩)] w fun x w' => ∃ s', x = .returned (.slice s'.p s'.n s'.c) ∧ Bf w w' s' (4 :: (leB n 3 ++ (a % 256) :: bsk r.tx)) := by
 have HB1 := hid (Bf.one w 4)
 obtain ⟨w1, Hw1⟩ : ∃ W, Hid (W = w.alloc (.cells #[.int .u8 4] 5)) := ⟨_, hid rfl⟩
 have e0 : (w.alloc (.cells #[.int .u8 ((4 : Nat) : Int)] 5)) = w1 := by rw [Hw1.out]; rfl
 rw [e0] at HB1
 clear e0
 have HD1 : Hid (Dv w1 O r s) := hid (h.kept0 (by rw [Hw1.out]; exact (Apart.refl [] w).alloc _))
 have zk : w.cell? ⟨O, 0, none⟩ = some (.int .i64 4) := by rw [h.kind, hk]; rfl
 have zk1 : w1.cell? ⟨O, 0, none⟩ = some (.int .i64 4) := by rw [HD1.out.kind, hk]; rfl
 have z26 : w1.cell? ⟨O, 26, none⟩ = some (.int .i64 (n : Int)) := by rw [HD1.out.stamp, hn]
 have HL := hid (fun (W : World) => low_ok (w := W) (n := n) (size := 3) (by omega) (by omega))
 have Ha := hid ha
 have Ht := hid ht
 clear h hk hn hn' ha ht
 obtain ⟨A, HA⟩ : ∃ A, Hid (A = w.heap.size) := ⟨_, hid rfl⟩
 rw [← HA.out] at HB1
 go_enter Tryz.func44, Tryz.ntmps44
 go_upto_region 2 with fail
 rw [← HA.out, ← Hw1.out]
 clear zk Hw1 HA
 go_upto_region 20 with (first
  | (go_at_call 60
     refine (HL.out w1).mono ?_
     rintro _ w3 ⟨s3, rfl, b3⟩
     obtain ⟨s4, w4, hrun, b4, t4⟩ := app_bs (HB1.out.kept b3.nw.ap) b3.nw.rd b3.len b3.nw.ok (by rw [leB_len]; simp only [List.length_cons, List.length_nil]; omega)
     have HRR := hid hrun
     have HB4 := hid b4
     have HS4 := hid (t4.block (keep0 b3.nw.ap HD1.out.blk) (by simp))
     clear hrun b4 t4 b3)
  | (at_builtin; refine wpList_app2 rfl _ _ 29 29 rfl _ _ rfl rfl (.slice s4.p s4.n s4.c) w4 HRR.out ?_))
 have e26 : (dCells r s)[27]? = some (.int .i64 r.ac) := by
  have h1 := HD1.out.actor
  rw [cell_of_row _ _ _ _ _ _ HD1.out.blk, List.getElem?_toArray] at h1
  exact h1
 have e27 : (dCells r s)[28]? = some (.string r.tx) := by
  have h1 := HD1.out.text
  rw [cell_of_row _ _ _ _ _ _ HD1.out.blk, List.getElem?_toArray] at h1
  exact h1
 have E27 := hid e27
 have z27 : w4.cell? ⟨O, 27, none⟩ = some (.int .i64 (a : Int)) := by rw [cell_of_row _ _ _ _ _ _ HS4.out, List.getElem?_toArray, e26, Ha.out]
 obtain ⟨s5, w5, hrun, b5, t5⟩ := app_byte HB4.out (a % 256) (by simp [leB_len])
 have HR5 := hid hrun
 have HB5 := hid b5
 have z28 : w5.cell? ⟨O, 28, none⟩ = some (.string r.tx) := by rw [cell_of_row _ _ _ _ _ _ (t5.block HS4.out (by simp)), List.getElem?_toArray, e27]
 clear hrun b5 t5 HRR HB1 HD1 e26 e27 z26 zk1
 go_upto_region 21 with (refine wpList_append3 rfl _ _ 29 rfl _ _ rfl rfl (.slice s5.p s5.n s5.c) w5 HR5.out ?_)
 obtain ⟨s6, w6, hrun, b6, t6⟩ := app_str HB5.out r.tx (by have := Ht.out; simp [leB_len]; omega)
 have HR6 := hid hrun
 have HB6 := hid b6
 clear hrun b6 t6 HR5 z27
 go_wp2_with (at_builtin; refine wpList_app2 rfl _ _ 29 9 rfl _ _ rfl rfl (.slice s6.p s6.n s6.c) w6 HR6.out ?_)
 go_ret
 exact ⟨s6, rfl, by simpa using HB6.out⟩
theorem Ss.tk {w w' : World} {s : Sl} {l : List ByteArray} (h : Ss w s l) (k : TK [5] w w') : Ss w' s l := ⟨h.rd.tk k (by decide), h.len, h.cap, h.ok⟩
theorem dform_set {w : World} {O : Nat} {r : Rv} {s : Sl} (h : Dk w O r s) (hk : r.k = 2) (hl : r.ts.length ≤ 10000) (hc : Sm r.c) {es : List En} (he : elsT r.ts [] = es.map fun x => x.e) (hn : es.length ≤ 500) (hz : ∀ x ∈ es, x.e.size ≤ 1000) (hb : ∀ x ∈ es, Tr r.ts x.e x.t) : Calls Tryz.prog 44 #[.pointer (some ⟨O, 0, none⟩)] w fun x w' => ∃ s', x = .returned (.slice s'.p s'.n s'.c) ∧ Bf w w' s' (setB r.c es) := by
 have HB1 := hid (Bf.one w 2)
 obtain ⟨w1, Hw1⟩ : ∃ W, Hid (W = w.alloc (.cells #[.int .u8 2] 5)) := ⟨_, hid rfl⟩
 have e0 : (w.alloc (.cells #[.int .u8 ((2 : Nat) : Int)] 5)) = w1 := by rw [Hw1.out]; rfl
 rw [e0] at HB1
 clear e0
 have HD1 : Hid (Dk w1 O r s) := hid (h.kept0 (by rw [Hw1.out]; exact (Apart.refl [] w).alloc _))
 have zk : w.cell? ⟨O, 0, none⟩ = some (.int .i64 2) := by rw [h.dv.kind, hk]; rfl
 have zk1 : w1.cell? ⟨O, 0, none⟩ = some (.int .i64 2) := by rw [HD1.out.dv.kind, hk]; rfl
 have HR := hid (fun (W : World) => drow_ok (w := W) hc zr_sm (size := 2) (by omega) false)
 have HE := hid (fun (W : World) (hW : Dk W O r s) => dels_ok (w := W) hW.dv hk hl)
 have HT := hid (fun (W : World) (hW : Dk W O r s) (x : En) (hx : x ∈ es) => tags_ok (w := W) hW.dv (by omega) (hb x hx))
 have Hlu : Hid ((rv r.u).length = 8) := hid (by rw [rv_len]; exact h.dv.lu)
 have Hld : Hid ((rv r.d).length = 8) := hid (by rw [rv_len]; exact h.dv.ld)
 have Hlc : Hid ((rv r.c).length = 8) := hid (by rw [rv_len]; exact h.dv.lc)
 have He := hid he
 have Hn := hid hn
 have Hz := hid hz
 clear h hk hl hc hb he hn hz
 obtain ⟨A, HA⟩ : ∃ A, Hid (A = w.heap.size) := ⟨_, hid rfl⟩
 rw [← HA.out] at HB1
 go_enter Tryz.func44, Tryz.ntmps44
 go_upto_region 2 with fail
 rw [← HA.out, ← Hw1.out]
 clear zk Hw1 HA
 go_upto_region 7 with (first
  | refine wpL_val rfl (.agg (rv r.c).toArray) (ex_load60 _ rfl O 17 _ rfl (bgC HD1.out.dv.blk Hlu.out Hld.out) Hlc.out) ?_
  | refine wpL_val rfl (.agg (rv zr).toArray) (ex_build60 rfl) ?_
  | (go_at_call 58
     refine (HR.out w1).mono ?_
     rintro _ w3 ⟨s3, rfl, b3⟩
     obtain ⟨s4, w4, hrun, b4, t4⟩ := app_bs (HB1.out.kept b3.nw.ap) b3.nw.rd b3.len b3.nw.ok (by have := rowD_len r.c zr 2 false (by omega); simp only [List.length_cons, List.length_nil]; omega)
     have HRR := hid hrun
     have HB4 := hid b4
     have HD4 := hid ((HD1.out.kept0 b3.nw.ap).tk t4)
     clear hrun b4 t4 b3)
  | (at_builtin; refine wpList_app2 rfl _ _ 29 29 rfl _ _ rfl rfl (.slice s4.p s4.n s4.c) w4 HRR.out ?_))
 clear HRR HB1 HD1 zk1
 have HC4 : Hid (Bf w w4 s4 (2 :: rowB r.c 2)) := hid (by have h1 := HB4.out; rw [rowD_one] at h1; exact h1)
 clear HB4
 go_upto_region 8 with (
  go_at_call 32
  refine (HE.out w4 HD4.out).mono ?_
  rintro _ w5 ⟨s5, rfl, a5, b5⟩
  rw [He.out] at b5
  have HS5 := hid b5
  have HD5 := hid (HD4.out.kept0 a5)
  have HB5 := hid (HC4.out.kept a5)
  clear a5 b5)
 have HN5 : Hid (s5.n = es.length) := hid (by rw [HS5.out.len, List.length_map])
 clear HC4 HD4
 obtain ⟨s6, w6, hrun, b6, t6⟩ := app_byte HB5.out (s5.n % 256) (by have := rowB_len r.c; simp only [List.length_cons]; omega)
 have HR6 := hid hrun
 have HB6 : Hid (Bf w w6 s6 (2 :: (rowB r.c 2 ++ (es.length % 256) :: esB (es.take 0)))) := hid (by
  have h1 := b6
  rw [HN5.out] at h1
  simpa [esB] using h1)
 have HS6 := hid (HS5.out.tk t6)
 have HD6 := hid (HD5.out.tk t6)
 clear hrun b6 t6 HS5 HD5
 go_upto_region 9 with (refine wpList_append3 rfl _ _ 29 rfl _ _ rfl rfl (.slice s6.p s6.n s6.c) w6 HR6.out ?_)
 clear HR6 HB5
 obtain ⟨N, HN⟩ : ∃ N, Hid (N = s5.n) := ⟨_, hid rfl⟩
 have hN5 : N ≤ 500 := by have h1 := HN.out; have h2 := HN5.out; have h3 := Hn.out; omega
 go_wp2_with fail
 go_loopw [3, 5] (fun v3 v5 wt => ∃ (i : Nat) (so : Sl), v3 = .slice so.p so.n so.c ∧ v5 = .int .i64 (i : Int) ∧ i ≤ N ∧ Hid (Bf w wt so (2 :: (rowB r.c 2 ++ (es.length % 256) :: esB (es.take i)))) ∧ Hid (Ss wt s5 (es.map fun x => x.e)) ∧ Hid (Dk wt O r s)) (fun _ v5 _ => N - natV v5)
 case atStart => exact ⟨0, s6, rfl, rfl, Nat.zero_le _, HB6, HS6, HD6⟩
 case round =>
  clear HB6 HS6 HD6
  obtain ⟨i, so, rfl, rfl, hi, HB, HS, HD⟩ := hrel
  generalize wr = wt at *
  by_cases hlt : i < N
  ·have hlti : ((i : Nat) : Int) < ((s5.n : Nat) : Int) := by have := HN.out; omega
   have Hil : Hid (i < es.length) := hid (by have := HN.out; have := HN5.out; omega)
   obtain ⟨x, Hx⟩ : ∃ x, Hid (x = es[i]'Hil.out) := ⟨_, hid rfl⟩
   have Hxm : Hid (x ∈ es) := hid (by rw [Hx.out]; exact List.getElem_mem _)
   have Hxe : Hid ((es.map fun x => x.e)[i]'(by rw [List.length_map]; exact Hil.out) = x.e) := hid (by rw [Hx.out, List.getElem_map])
   have Hst : Hid (esB (es.take (i + 1)) = esB (es.take i) ++ ((x.e.size % 256) :: (bsk x.e ++ rowB x.t 2))) := hid (by rw [esB_take Hil.out, ← Hx.out]; rfl)
   have Hln : Hid ((2 :: (rowB r.c 2 ++ (es.length % 256) :: esB (es.take i))).length ≤ 520000) := hid (by
    have h1 := esB_take_len Hz.out i
    have h2 := rowB_len r.c
    have h3 := Hn.out
    simp only [List.length_cons, List.length_append]
    omega)
   have Hsz : Hid (x.e.size ≤ 1000) := hid (Hz.out x Hxm.out)
   obtain ⟨y, Hy⟩ : ∃ y, Hid (y = x.e) := ⟨_, hid rfl⟩
   rw [← Hy.out] at Hxe Hst Hsz
   -- the length
   obtain ⟨P, o, hp, hP, zj⟩ := HS.out.at (j := i) (by rw [List.length_map]; exact Hil.out)
   rw [Hxe.out] at zj
   have HP := hid hp
   clear hp hP
   obtain ⟨s1, w1, hrun1, b1, t1⟩ := app_byte HB.out (y.size % 256) (by have := Hln.out; omega)
   have HR1 := hid hrun1
   have HB1 := hid b1
   have HS1 := hid (HS.out.tk t1)
   have HD1 := hid (HD.out.tk t1)
   obtain ⟨P1, o1, hp1, hP1, zj1⟩ := HS1.out.at (j := i) (by rw [List.length_map]; exact Hil.out)
   rw [Hxe.out] at zj1
   have HP1 := hid hp1
   clear hp1 hP1 hrun1 b1 t1
   obtain ⟨s2, w2, hrun2, b2, t2⟩ := app_str HB1.out y (by have h1 := Hln.out; have h2 := Hsz.out; rw [List.length_append, show ([y.size % 256] : List Nat).length = 1 from rfl]; omega)
   have HR2 := hid hrun2
   have HB2 := hid b2
   have HS2 := hid (HS1.out.tk t2)
   have HD2 := hid (HD1.out.tk t2)
   obtain ⟨P2, o2, hp2, hP2, zj2⟩ := HS2.out.at (j := i) (by rw [List.length_map]; exact Hil.out)
   rw [Hxe.out] at zj2
   have HP2 := hid hp2
   clear hp2 hP2 hrun2 b2 t2
   have hsp : s5.p = some ⟨P, o, none⟩ := HP.out
   obtain ⟨rfl, rfl⟩ : P1 = P ∧ o1 = o := by
    have h1 := HP1.out; rw [HP.out] at h1; simpa using h1.symm
   obtain ⟨rfl, rfl⟩ : P2 = P1 ∧ o2 = o1 := by
    have h1 := HP2.out; rw [HP.out] at h1; simpa using h1.symm
   have HSp := hid hsp
   clear hsp HP HP1 HP2
   rw [HSp.out]
   go_upto_region 13 with (refine wpList_append3 rfl _ _ 29 rfl _ _ rfl rfl (.slice s1.p s1.n s1.c) w1 HR1.out ?_)
   clear HR1 zj
   go_upto_region 14 with (at_builtin; refine wpList_app2 rfl _ _ 29 9 rfl _ _ rfl rfl (.slice s2.p s2.n s2.c) w2 HR2.out ?_)
   clear HR2 zj1
   go_wp2_with (first
    | (go_at_call 59
       have hT := HT.out w2 HD2.out x Hxm.out
       rw [← Hy.out] at hT
       refine hT.mono ?_
       rintro _ w3 ⟨s3, rfl, b3⟩
       obtain ⟨s4, w4, hrun, b4, t4⟩ := app_bs (HB2.out.kept b3.nw.ap) b3.nw.rd b3.len b3.nw.ok (by
         have h1 := Hln.out
         have h2 := Hsz.out
         have h3 := rowD_len x.t zr 2 false (by omega)
         have h4 := bsk_len y
         simp only [List.length_append, List.length_cons, List.length_nil] at h1 ⊢
         omega)
       have HRR := hid hrun
       have HB4 := hid b4
       have HS4 := hid ((HS2.out.kept0 b3.nw.ap).tk t4)
       have HD4 := hid ((HD2.out.kept0 b3.nw.ap).tk t4)
       clear hrun b4 t4 b3)
    | (at_builtin; refine wpList_app2 rfl _ _ 29 29 rfl _ _ rfl rfl (.slice s4.p s4.n s4.c) w4 HRR.out ?_))
   exact ⟨⟨i + 1, s4, rfl, by go_num, by omega, hid (by
    have h1 := HB4.out
    rw [rowD_one] at h1
    rw [Hst.out]
    simpa [List.append_assoc] using h1), HS4, HD4⟩, by simp [natV]; omega⟩
  ·have hlti : ¬ ((i : Nat) : Int) < ((s5.n : Nat) : Int) := by have := HN.out; omega
   have Hie : Hid (es.take i = es) := hid (List.take_of_length_le (by have := HN.out; have := HN5.out; omega))
   rw [Hie.out] at HB
   go_wp2_with fail
   go_ret
   exact ⟨so, rfl, HB.out⟩
theorem Cn.sm {c : List Int} (h : Cn c) : Sm c := ⟨h.1, fun i hi => by have := h.2 i; omega⟩
theorem dform_any {w : World} {O : Nat} {v : Vl} {ts : List Tg} {s : Sl} (h : Dk w O (rvO v ts) s) (hr : Rl v ts) (iv : Iv v) : Calls Tryz.prog 44 #[.pointer (some ⟨O, 0, none⟩)] w fun x w' => ∃ s', x = .returned (.slice s'.p s'.n s'.c) ∧ Bf w w' s' (formV v) := by
 cases v using Vl.el with
 | cnt u d => exact dform_cnt h.dv rfl iv.gt.1.1 iv.gt.1.2
 | set c es =>
  obtain ⟨⟨hg, hc, hs⟩, -⟩ := iv.gt
  have hle := hr.els (v := .set c es) iv.gt.1
  have hl := hr.len
  exact dform_set (r := rvO (.set c es) ts) h rfl (by show ts.length ≤ _; omega) hc.sm (els_eq hr.1 hg.so hg.nz (fun x hx => (hg.wi x hx).1)) (by show es.length ≤ 500; have : es.length ≤ 96 := hle; omega) (fun x hx => by have := hs x hx; omega) (fun x hx => by
   have h1 := Rl.tr hr.1 hc x.e (hg.tg x.e)
   rw [tg_mem hg.so hx] at h1
   exact h1)
 | flg c g =>
  obtain ⟨⟨hc, hw⟩, -⟩ := iv.gt
  have hl := hr.len
  have h1 := Rl.tr hr.1 hc ⟨#[]⟩ (flT_wi hw hc _)
  have e : flT g ⟨#[]⟩ = g := by unfold flT; rw [if_pos rfl]
  rw [e] at h1
  exact dform_flg (r := rvO (.flg c g) ts) h rfl (by show ts.length ≤ _; omega) hc.sm h1
 | rgs n a t =>
  obtain ⟨⟨⟨h0, h1⟩, ⟨h2, h3⟩, -⟩, -⟩ := iv.gt
  obtain ⟨n, rfl⟩ := Int.eq_ofNat_of_zero_le h0
  obtain ⟨b, rfl⟩ := Int.eq_ofNat_of_zero_le h2
  exact dform_reg (r := rvO (.rgs n b t) ts) h.dv rfl (n := n) (a := b) rfl (by omega) rfl (by show t.size ≤ 1000; omega)
theorem rbytes_ok {w : World} {O : Nat} {v : Vl} {ts : List Tg} {s : Sl} (h : Dk w O (rvO v ts) s) (hr : Rl v ts) (iv : Iv v) : Calls Tryz.prog 23 #[.pointer (some ⟨O, 0, none⟩)] w fun x w' => ∃ s' : Sl, x = .returned (.tuple #[.slice s'.p s'.n s'.c, .int .i64 (wzV v)]) ∧ Bq w' s' (bzV v) ∧ Apart [] w w' := by
 have HF := hid (dform_any h hr iv)
 clear h hr iv
 unfold bzV wzV
 by_cases hl : (formV v).length ≤ 64
 ·rw [if_pos hl, if_pos hl]
  have Hl := hid hl
  clear hl
  go_enter Tryz.func23, Tryz.ntmps23
  go_upto_region 2 with (
   go_at_call 44
   refine HF.out.mono ?_
   rintro _ w3 ⟨s3, rfl, b3⟩
   have HB := hid b3
   clear b3)
  have hn : ¬ ((s3.n : Nat) : Int) > 64 := by have h1 := HB.out.len; have h2 := Hl.out; omega
  go_wp2_with fail
  go_ret2
  exact ⟨s3, rfl, ⟨HB.out.nw.rd, HB.out.len.symm, HB.out.nw.ok⟩, HB.out.nw.ap⟩
 ·rw [if_neg hl, if_neg hl]
  have Hl := hid hl
  clear hl
  go_enter Tryz.func23, Tryz.ntmps23
  go_upto_region 2 with (
   go_at_call 44
   refine HF.out.mono ?_
   rintro _ w3 ⟨s3, rfl, b3⟩
   have HB := hid b3
   clear b3)
  have hn : ((s3.n : Nat) : Int) > 64 := by have h1 := HB.out.len; have h2 := Hl.out; omega
  go_wp2_with fail
  go_ret2
  exact ⟨⟨none, 0, 0⟩, rfl, ⟨Rd.nil _ _, rfl, fun _ => ⟨rfl, rfl⟩⟩, HB.out.nw.ap⟩
theorem dels_no {w : World} {O : Nat} {r : Rv} {s : Sl} (h : Dv w O r s) (hk : r.k ≠ 2) : Calls Tryz.prog 32 #[.pointer (some ⟨O, 0, none⟩)] w fun x w' => ∃ s', x = .returned (.slice s'.p s'.n s'.c) ∧ Apart [] w w' ∧ Ss w' s' [] := by
 have zs := h.tags
 have zk := h.kind
 obtain ⟨k, Hk⟩ : ∃ k, Hid (k = r.k) := ⟨_, hid rfl⟩
 rw [← Hk.out] at zk
 have hkb : (((k : Nat) : Int) == 2) = false := by have := Hk.out; simp only [beq_eq_false_iff_ne]; omega
 clear h hk
 have Hfin : Hid (Apart [] w w ∧ Ss w ⟨none, 0, 0⟩ []) := hid ⟨Apart.refl _ _, RdT.nil _ _ _, rfl, Nat.le_refl _, fun _ => ⟨rfl, rfl⟩⟩
 go_enter Tryz.func32, Tryz.ntmps32
 go_wp2_with fail
 go_loopw [3, 4] (fun v3 v4 wt => Hid (v3 = .slice none 0 0 ∧ v4 = .int .i64 0) ∧ Hid (wt = w)) (fun _ v4 _ => 0)
 case atStart => exact ⟨hid ⟨rfl, rfl⟩, hid rfl⟩
 case round =>
  obtain ⟨Hv, Hw⟩ := hrel
  obtain ⟨rfl, rfl⟩ := Hv.out
  rw [Hw.out]
  by_cases hlt : 0 < s.n
  ·have hlti : ((0 : Nat) : Int) < ((s.n : Nat) : Int) := by omega
   have hlti' : (0 : Int) < ((s.n : Nat) : Int) := by omega
   go_wp2_with fail
   go_ret
   exact ⟨⟨none, 0, 0⟩, rfl, Hfin.out⟩
  ·have hlti : ¬ ((0 : Nat) : Int) < ((s.n : Nat) : Int) := by omega
   have hlti' : ¬ (0 : Int) < ((s.n : Nat) : Int) := by omega
   go_wp2_with fail
   go_ret
   exact ⟨⟨none, 0, 0⟩, rfl, Hfin.out⟩
theorem rels_ok {w : World} {O : Nat} {v : Vl} {ts : List Tg} {s : Sl} (h : Dk w O (rvO v ts) s) (hr : Rl v ts) (iv : Iv v) : Calls Tryz.prog 32 #[.pointer (some ⟨O, 0, none⟩)] w fun x w' => ∃ s', x = .returned (.slice s'.p s'.n s'.c) ∧ Apart [] w w' ∧ Ss w' s' ((elsR v).map fun x => x.e) := by
 cases v using Vl.el with
 | cnt u d => exact dels_no h.dv (by simp [rvO])
 | flg c g => exact dels_no h.dv (by simp [rvO])
 | rgs n a t => exact dels_no h.dv (by simp [rvO])
 | set c es =>
  obtain ⟨⟨hg, hc, hs⟩, -⟩ := iv.gt
  have hl := hr.len
  have h1 := dels_ok (r := rvO (.set c es) ts) h.dv rfl (by show ts.length ≤ _; omega)
  have e : elsT (rvO (.set c es) ts).ts [] = es.map fun x => x.e := els_eq hr.1 hg.so hg.nz (fun x hx => (hg.wi x hx).1)
  rw [e] at h1
  exact h1
theorem sumC_zz : sumC zr zr 8 = 0 := by decide +kernel
theorem rsum_v {w : World} {O : Nat} {v : Vl} {ts : List Tg} {s : Sl} (h : Dk w O (rvO v ts) s) (iv : Iv v) : Calls Tryz.prog 28 #[.pointer (some ⟨O, 0, none⟩)] w fun x w' => x = .returned (.int .i64 (sumR v)) ∧ Apart [] w w' := by
 have key : ∀ {r : Rv} {z : Int}, Dk w O r s → Wd r.u → Wd r.d → sumC r.u r.d 8 = z → Calls Tryz.prog 28 #[.pointer (some ⟨O, 0, none⟩)] w fun x w' => x = .returned (.int .i64 z) ∧ Apart [] w w' := by
  intro r z hd hu hdd e
  subst e
  exact rsum_ok hd.dv hu hdd
 cases v using Vl.el with
 | cnt u d => exact key h iv.gt.1.1 iv.gt.1.2 rfl
 | set c es => exact key h Wd.zr Wd.zr sumC_zz
 | flg c g => exact key h Wd.zr Wd.zr sumC_zz
 | rgs n a t => exact key h Wd.zr Wd.zr sumC_zz
theorem ron_v {w : World} {O : Nat} {v : Vl} {ts : List Tg} {s : Sl} (h : Dk w O (rvO v ts) s) (hr : Rl v ts) (iv : Iv v) : Calls Tryz.prog 30 #[.pointer (some ⟨O, 0, none⟩)] w fun x w' => x = .returned (.bool (onR v)) ∧ Apart [] w w' := by
 rw [← hr.on iv]
 exact ron_ok h.dv
/-! ### its cells written -/
theorem dset_rest {r : Rv} {s : Sl} (lu : r.u.length = 8) (ld : r.d.length = 8) (lc : r.c.length = 8) (i : Nat) (v : Value) : (dCells r s).set (25 + i) v = .int .i64 (r.k : Int) :: (rv r.u ++ (rv r.d ++ (rv r.c ++ ([Value.slice s.p s.n s.c, .int .i64 r.st, .int .i64 r.ac, .string r.tx].set i v)))) := by
 unfold dCells
 rw [show 25 + i = (8 + (8 + (8 + i))) + 1 by omega, List.set_cons_succ, List.set_append_right _ _ (by rw [rv_len]; omega), rv_len, lu, Nat.add_sub_cancel_left, List.set_append_right _ _ (by rw [rv_len]; omega), rv_len, ld, Nat.add_sub_cancel_left, List.set_append_right _ _ (by rw [rv_len]; omega), rv_len, lc, Nat.add_sub_cancel_left]
theorem dset_up {r : Rv} {s : Sl} {i : Nat} (hi : i < 8) (lu : r.u.length = 8) (x : Int) : (dCells r s).set (1 + i) (.int .i64 x) = dCells { r with u := r.u.set i x } s := by
 unfold dCells
 rw [Nat.add_comm, List.set_cons_succ, List.set_append_left _ _ (by rw [rv_len, lu]; exact hi), rv_set]
theorem dset_down {r : Rv} {s : Sl} {i : Nat} (hi : i < 8) (lu : r.u.length = 8) (ld : r.d.length = 8) (x : Int) : (dCells r s).set (9 + i) (.int .i64 x) = dCells { r with d := r.d.set i x } s := by
 unfold dCells
 rw [show 9 + i = (8 + i) + 1 by omega, List.set_cons_succ, List.set_append_right _ _ (by rw [rv_len]; omega), rv_len, lu, Nat.add_sub_cancel_left, List.set_append_left _ _ (by rw [rv_len, ld]; exact hi), rv_set]
theorem dset_count {r : Rv} {s : Sl} {i : Nat} (hi : i < 8) (lu : r.u.length = 8) (ld : r.d.length = 8) (lc : r.c.length = 8) (x : Int) : (dCells r s).set (17 + i) (.int .i64 x) = dCells { r with c := r.c.set i x } s := by
 unfold dCells
 rw [show 17 + i = (8 + (8 + i)) + 1 by omega, List.set_cons_succ, List.set_append_right _ _ (by rw [rv_len]; omega), rv_len, lu, Nat.add_sub_cancel_left, List.set_append_right _ _ (by rw [rv_len]; omega), rv_len, ld, Nat.add_sub_cancel_left, List.set_append_left _ _ (by rw [rv_len, lc]; exact hi), rv_set]
theorem Dk.wr {w w' : World} {O : Nat} {r r' : Rv} {s : Sl} (h : Dk w O r s) (a : Apart [O] w w') (hb : w'.heap[O]? = some (.cells (dCells r' s).toArray 63 (0, 0))) (ht : r'.ts = r.ts) (lu : r'.u.length = 8) (ld : r'.d.length = 8) (lc : r'.c.length = 8) : Dk w' O r' s := by
 have hne : ∀ (A : Nat) (cur : Array Value), w.heap[A]? = some (.cells cur 96 (0, 0)) → A ≠ O := fun A cur h3 e => by
  rw [e, h.dv.blk] at h3
  simp at h3
 refine ⟨⟨hb, ?_, by rw [ht]; exact h.dv.len, h.dv.ok, lu, ld, lc⟩, fun h0 => ?_⟩
 ·rw [ht]
  by_cases h0 : 0 < r.ts.length
  ·obtain ⟨A, o, cur, h1, h3⟩ := h.tag h0
   refine h.dv.rd.kept a (fun P o' hp hm => ?_)
   rw [h1] at hp
   simp only [Option.some.injEq, Addr.mk.injEq] at hp
   exact hne A cur h3 (by rw [hp.1]; exact List.mem_singleton.1 hm)
  ·have e : r.ts = [] := List.length_eq_zero_iff.1 (by omega)
   rw [e]
   exact Rd.nil _ _
 ·rw [ht] at h0
  obtain ⟨A, o, cur, h1, h3⟩ := h.tag h0
  exact ⟨A, o, cur, h1, keepB a h3 (hne A cur h3)⟩
end Go.Proofs.YtdbeeikjngnnnaaGreat.ty
